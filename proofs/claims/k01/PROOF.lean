import PyProof.Rows.All
import Wide.All
import OpenK.AllK
import Wide.FinOn
import Lean
import PyProof.EqAt
import PyProof.EqKinds
import PyProof.TupleCall
import PyProof.NeKinds
import PyProof.FactsAll.list
import PyProof.ListMulRoad
import PyProof.FactsAll.tuple
import PyProof.Rows.TupAdd
import PyProof.StationsW
import PyProof.RulesAs
import OpenK.KOwn
import OpenK.KMake
import PyProof.ExcClass3
import PyProof.ExcInit
import PyProof.InstStoreFacts
import PyProof.ExcAttrAll.ValueError
import PyProof.NsDelKeeps
import KE.KTryMore
import KE.KIsAll
import KE.KDictSum
import PyProof.Rows.SortWalk
import PyProof.StrOps2
import PyProof.WalkInts
import PyProof.SeqI3
import KE.KEqDict
import PyProof.InstEq
import PySem.Challenge.RW_papervault_k01_what_is_a_thing
-- CHANGE: your row's module here, as the last of these rows
set_option Elab.async false
set_option linter.all false
set_option maxRecDepth 100000
/-! THE HAND LAYER, for ints, bools, texts, own classes, LISTS and tuples (index, slices, in, append, pop ..), calls, loops. Paste it whole ahead of your own text; what your proof does not reach may be deleted. -/
namespace L2
open PySem PySem.Spec PyProof.Rows

/-- a key: an int or a str -/
abbrev Key := Sum Int Str
def keyIs : Key → Value → Bool
  | .inl k, v => Value.isInt k v
  | .inr x, v => Value.isStrOf x v
def keyH (w : World) : Key → Int
  | .inl k => hashInt k
  | .inr x => hashStr w x
theorem keyIs_shape : ∀ {k : Key} {v : Value}, keyIs k v = true → (∃ i t, k = Sum.inl i ∧ v = Value.int i t) ∨ (∃ x t, k = Sum.inr x ∧ v = Value.str x t)
  | .inl i, v, h => by
    obtain ⟨t, e⟩ := Value.isInt_shape (k := i) (v := v) h
    exact .inl ⟨i, t, rfl, e⟩
  | .inr x, v, h => by
    obtain ⟨t, e⟩ := Value.isStrOf_shape (x := x) (v := v) h
    exact .inr ⟨x, t, rfl, e⟩
theorem key_ll (a b : Int) : decide ((Sum.inl a : Key) = Sum.inl b) = (a == b) := by
  by_cases e : a = b
  · subst e; simp
  · have h : ¬ (Sum.inl a : Key) = Sum.inl b := fun q => e (Sum.inl.inj q)
    rw [decide_eq_false h]
    exact (beq_eq_false_iff_ne.mpr e).symm
theorem key_rr (a b : Str) : decide ((Sum.inr a : Key) = Sum.inr b) = decide (a = b) := by
  by_cases e : a = b
  · subst e; simp
  · have h : ¬ (Sum.inr a : Key) = Sum.inr b := fun q => e (Sum.inr.inj q)
    rw [decide_eq_false h, decide_eq_false e]
theorem key_lr (a : Int) (b : Str) : decide ((Sum.inl a : Key) = Sum.inr b) = false := decide_eq_false (fun q => nomatch q)
theorem key_rl (a : Str) (b : Int) : decide ((Sum.inr a : Key) = Sum.inl b) = false := decide_eq_false (fun q => nomatch q)

def mixKind (prog : Program) (w : World) : PySem.KeyKind prog w Key where
  is := keyIs
  hash := keyH w
  inj := fun v a b ha hb => by
    rcases keyIs_shape ha with ⟨i, t, rfl, rfl⟩ | ⟨x, t, rfl, rfl⟩
    · rcases keyIs_shape hb with ⟨j, u, rfl, e⟩ | ⟨y, u, rfl, e⟩
      · injection e with e1 _; rw [e1]
      · exact nomatch e
    · rcases keyIs_shape hb with ⟨j, u, rfl, e⟩ | ⟨y, u, rfl, e⟩
      · exact nomatch e
      · injection e with e1 _; rw [e1]
  byValue := fun k v h => by
    rcases keyIs_shape h with ⟨i, t, rfl, rfl⟩ | ⟨x, t, rfl, rfl⟩ <;> rfl
  pyHash := fun hv h => by
    rcases keyIs_shape hv with ⟨i, t, rfl, rfl⟩ | ⟨x, t, rfl, rfl⟩
    · exact wpAny_pyHash_int h
    · exact wpAny_pyHash_str h
  eqBool := fun hu hv h => by
    rcases keyIs_shape hu with ⟨i, t, rfl, rfl⟩ | ⟨x, t, rfl, rfl⟩
    · rcases keyIs_shape hv with ⟨j, u, rfl, rfl⟩ | ⟨y, u, rfl, rfl⟩
      · rw [key_ll] at h; exact wpAny_eqBool_int h
      · rw [key_lr] at h; exact SeqAt.EqAt.int_str i t y u _ _ _ _ h
    · rcases keyIs_shape hv with ⟨j, u, rfl, rfl⟩ | ⟨y, u, rfl, rfl⟩
      · rw [key_rl] at h; exact SeqAt.EqAt.str_int x t j u _ _ _ _ h
      · rw [key_rr] at h; exact wpAny_eqBool_str h
  «strs» := fun k x t v h => by
    rcases keyIs_shape h with ⟨i, u, rfl, e⟩ | ⟨y, u, rfl, e⟩
    · exact nomatch e
    · injection e with e1 _
      subst e1
      cases v <;> rfl

end L2

namespace L2
open PySem PySem.Spec PyProof.Rows

/-- a value, without the heap -/
inductive V where
  | non | bl (b : Bool) | int (i : Int) | str (x : Str) | byt (b : Array UInt8) | flt (b : UInt64) | ref (a : Addr) | ty (n : String)
  deriving DecidableEq

def RelV : V → Value → Prop
  | .non, u => u = Value.none
  | .bl b, u => u = Value.bool b
  | .int i, u => ∃ t, u = Value.int i t
  | .str x, u => ∃ t, u = Value.str x t
  | .byt b, u => ∃ t, u = Value.bytes b t
  | .flt b, u => ∃ t, u = Value.float b t
  | .ref a, u => u = Value.ref a
  | .ty n, u => u = Value.type n

abbrev Vals : List V → List Value → Prop := Paired RelV
theorem Vals.length {xs : List V} {us : List Value} (r : Vals xs us) : xs.length = us.length := Paired.length r
theorem Vals.get : ∀ {xs : List V} {us : List Value} {i : Nat} {x : V}, Vals xs us → xs[i]? = some x → ∃ u, us[i]? = some u ∧ RelV x u
  | _, _, _, _, .nil, e => by simp at e
  | _, _, 0, _, .cons r _, e => by simp at e; subst e; exact ⟨_, rfl, r⟩
  | _, _, i + 1, x, .cons _ t, e => by
    obtain ⟨u, h1, h2⟩ := Vals.get (i := i) (x := x) t (by simpa using e)
    exact ⟨u, by simpa using h1, h2⟩
theorem Vals.set {x : V} {u : Value} (r : RelV x u) : ∀ {xs : List V} {us : List Value} (i : Nat), Vals xs us → Vals (xs.set i x) (us.set i u)
  | _, _, _, .nil => .nil
  | _, _, 0, .cons _ t => .cons r t
  | _, _, i + 1, .cons q t => .cons q (Vals.set r i t)
theorem Vals.append : ∀ {xs ys : List V} {us ws : List Value}, Vals xs us → Vals ys ws → Vals (xs ++ ys) (us ++ ws)
  | _, _, _, _, .nil, s => s
  | _, _, _, _, .cons r t, s => .cons r (Vals.append t s)
theorem Vals.take : ∀ {xs : List V} {us : List Value} (n : Nat), Vals xs us → Vals (xs.take n) (us.take n)
  | _, _, 0, _ => .nil
  | _, _, _ + 1, .nil => .nil
  | _, _, n + 1, .cons r t => .cons r (Vals.take n t)
theorem Vals.drop : ∀ {xs : List V} {us : List Value} (n : Nat), Vals xs us → Vals (xs.drop n) (us.drop n)
  | _, _, 0, r => r
  | _, _, _ + 1, .nil => .nil
  | _, _, n + 1, .cons _ t => Vals.drop n t

def RelO : Option V → Option Value → Prop
  | some v, some u => RelV v u
  | none, none => True
  | _, _ => False
def KV {κ : Type} : List (κ × V) → List (κ × Value) → Prop := Paired fun (p : κ × V) (q : κ × Value) => p.1 = q.1 ∧ RelV p.2 q.2

/-- a key of a dict (00_mix): an int or a text -/
def kV : Key → V
  | .inl i => .int i
  | .inr x => .str x

/-- what stands at a tracked address -/
inductive HO where
  /-- a list -/
  | lst (xs : List V)
  /-- a tuple (never changes) -/
  | tup (xs : List V)
  /-- a dict whose keys are ints and texts; one whose keys are tuples of ints and texts (the empty one is both) -/
  | dK (kvs : List (Key × V)) | dT (kvs : List (List Key × V))
  /-- a set of ints: its members, its size -/
  | set (S : Int → Bool) (n : Nat)
  /-- an instance of the class at C, its dict at dx, its attributes -/
  | ins (C dx : Addr) (fs : List (Str × V))
  /-- the dict of the instance at x -/
  | own (x : Addr)
  /-- the dict of an exception -/
  | xd (fs : List (Str × V))
  /-- a bound method, f of x -/
  | met (f x : Addr)
  /-- a range object lo, lo + 1, .. below hi -/
  | rng (lo hi : Int)
  /-- a thing that is known to the object (the script; a dict while a loop walks it): read, never written while it is so -/
  | frz (o : Obj) (u : HO)
  /-- a code object's table -/
  | tbl (ps : Array Value)
  /-- any other thing, by what is true of its one object (a def of one's own: SetO a S n := HO.ext fun h => ..) -/
  | ext (φ : Heap → Prop)

abbrev Hp := Addr → Option HO
def upd (H : Hp) (a : Addr) (o : HO) : Hp := fun b => if b = a then some o else H b
theorem upd_same {H : Hp} {a : Addr} {o : HO} : upd H a o a = some o := by unfold upd; rw [if_pos rfl]
theorem upd_ne {H : Hp} {a b : Addr} {o : HO} (h : b ≠ a) : upd H a o b = H b := by unfold upd; rw [if_neg h]
/-- two objects of different content stand apart -/
theorem ne_of {H : Hp} {a b : Addr} {o u : HO} (h : H a = some o) (h' : H b = some u) (d : o ≠ u) : a ≠ b := by
  intro e; subst e; rw [h] at h'; exact d (Option.some.inj h')
theorem ne_of_none {H : Hp} {a b : Addr} {o : HO} (h : H a = some o) (h' : H b = none) : a ≠ b := by
  intro e; subst e; rw [h] at h'; cases h'

section
variable (P : Program) (w : World)
def ObjOk (H : Hp) (h : Heap) (a : Addr) : HO → Prop
  | .lst xs => xs.length ≤ sizeLine ∧ ∃ (its : List Value) (n : Nat), Vals xs its ∧ h.get? a = some { cls := .type "list", data := .seq its.toArray n }
  | .tup xs => xs.length ≤ sizeLine ∧ ∃ its : List Value, Vals xs its ∧ IsTup h a its.toArray
  | .dK kvs => kvs.length ≤ sizeLine ∧ (a == sysModules) = false ∧ ∃ vs, KV kvs vs ∧ h.DictOf (mixKind P w) a vs
  | .dT kvs => kvs.length ≤ sizeLine ∧ (a == sysModules) = false ∧ ∃ xs : List (List Key × Addr × Value),
      Paired (fun (p : List Key × V) (q : List Key × Addr × Value) => p.1 = q.1 ∧ H q.2.1 = some (.tup (p.1.map kV)) ∧ RelV p.2 q.2.2) kvs xs ∧
      ∃ o es ep, h.get? a = some o ∧ o.ExactDict ∧ o.data = .dict es ep ∧ es.toList = xs.map (entryOfKey (tupleKind (mixKind P w))) ∧ (xs.map (·.1)).Nodup
  | .set S n => h.SetOf (intKind P w) a S n
  | .ins C dx fs => H dx = some (.own a) ∧ fs.length ≤ 1000 ∧ dx ≠ a ∧ h.get? a = some (PySem.W.instObj C dx) ∧
      ∃ mA, h.Ns1 dx mA ∧ (∀ f, RelO (fs.lookup f) (mA f)) ∧ PySem.Within mA (fs.map (·.1))
  | .own _ => ∃ o, h.get? a = some o
  | .xd fs => ∃ mA, h.Ns1 a mA ∧ ∀ f, RelO (fs.lookup f) (mA f)
  | .rng lo hi => ∃ t u v, h.get? a = some { cls := .type "range", data := .fields #[.int lo t, .int hi u, .int 1 v] }
  | .frz o u => h.get? a = some o ∧ ObjOk H h a u
  | .tbl ps => h.get? a = some { cls := .none, data := .fields ps }
  | .met f x => h.get? a = some (PySem.W.methodObj (.ref f) (.ref x))
  | .ext φ => φ h ∧ (∃ o, h.get? a = some o) ∧ ∀ h1 h2 : Heap, φ h1 → (∀ o, h1.get? a = some o → h2.get? a = some o) → φ h2
/-- the abstract heap is held -/
def HOk (H : Hp) (h : Heap) : Prop := ∀ a o, H a = some o → ObjOk P w H h a o
end

section
variable {P : Program} {w : World} {H H' : Hp} {h h' : Heap} {a : Addr} {o : HO}
theorem ObjOk.lt (x : ObjOk P w H h a o) : a < h.objs.size := by
  cases o with
  | lst xs => obtain ⟨_, _, _, _, e⟩ := x; exact Heap.lt_size e
  | tup xs => obtain ⟨_, _, _, p⟩ := x; exact p.lt
  | dK kvs => obtain ⟨_, _, _, _, o, _, _, e, _⟩ := x; exact Heap.lt_size e
  | dT kvs => obtain ⟨_, _, _, _, o, _, _, e, _⟩ := x; exact Heap.lt_size e
  | set S n => obtain ⟨o, _, _, _, e, _⟩ := x; exact Heap.lt_size e
  | ins C dx fs => obtain ⟨_, _, _, e, _⟩ := x; exact Heap.lt_size e
  | own y => obtain ⟨_, e⟩ := x; exact Heap.lt_size e
  | xd fs => obtain ⟨_, ⟨_, _, _, e, _⟩, _⟩ := x; exact Heap.lt_size e
  | rng lo hi => obtain ⟨_, _, _, e⟩ := x; exact Heap.lt_size e
  | frz ob u => obtain ⟨e, _⟩ := x; exact Heap.lt_size e
  | tbl ps => exact Heap.lt_size (show h.get? a = some _ from x)
  | met f y => exact Heap.lt_size (show h.get? a = some _ from x)
  | ext φ => obtain ⟨_, ⟨_, e⟩, _⟩ := x; exact Heap.lt_size e
theorem Paired.mapP {α β : Type} {F G : α → β → Prop} : ∀ {l₁ : List α} {l₂ : List β}, Paired F l₁ l₂ → (∀ a b, F a b → G a b) → Paired G l₁ l₂
  | _, _, .nil, _ => .nil
  | _, _, .cons r t, f => .cons (f _ _ r) (Paired.mapP t f)
/-- what an object's description leans on: its own object, its own dict, the tuples -/
theorem ObjOk.stay (x : ObjOk P w H h a o) (k : ∀ b u, (b = a ∨ H b = some (.own a)) → h.get? b = some u → h'.get? b = some u)
    (ho : ∀ b, H b = some (.own a) → H' b = some (.own a)) (ht : ∀ b xs, H b = some (.tup xs) → H' b = some (.tup xs)) : ObjOk P w H' h' a o := by
  induction o with
  | lst xs => obtain ⟨z, its, n, r, e⟩ := x; exact ⟨z, its, n, r, k _ _ (.inl rfl) e⟩
  | tup xs => obtain ⟨z, its, r, ob, e, c⟩ := x; exact ⟨z, its, r, ob, k _ _ (.inl rfl) e, c⟩
  | dK kvs => obtain ⟨z, y, vs, r, ob, es, ep, e, c⟩ := x; exact ⟨z, y, vs, r, ob, es, ep, k _ _ (.inl rfl) e, c⟩
  | dT kvs =>
    obtain ⟨z, y, xs, r, ob, es, ep, e, c⟩ := x
    exact ⟨z, y, xs, Paired.mapP r fun p q z => ⟨z.1, ht _ _ z.2.1, z.2.2⟩, ob, es, ep, k _ _ (.inl rfl) e, c⟩
  | set S n => obtain ⟨ob, es, ep, t, e, c⟩ := x; exact ⟨ob, es, ep, t, k _ _ (.inl rfl) e, c⟩
  | ins C dx fs =>
    obtain ⟨d, z, ne, e, mA, ⟨od, es, ep, e2, c⟩, r⟩ := x
    exact ⟨ho _ d, z, ne, k _ _ (.inl rfl) e, mA, ⟨od, es, ep, k _ _ (.inr d) e2, c⟩, r⟩
  | own y => obtain ⟨ob, e⟩ := x; exact ⟨ob, k _ _ (.inl rfl) e⟩
  | xd fs => obtain ⟨mA, ⟨od, es, ep, e, c⟩, r⟩ := x; exact ⟨mA, ⟨od, es, ep, k _ _ (.inl rfl) e, c⟩, r⟩
  | rng lo hi => obtain ⟨t, u, v, e⟩ := x; exact ⟨t, u, v, k _ _ (.inl rfl) e⟩
  | frz ob u ih => obtain ⟨e, q⟩ := x; exact ⟨k _ _ (.inl rfl) e, ih q⟩
  | tbl ps =>
    have e : h.get? a = some { cls := .none, data := .fields ps } := x
    show h'.get? a = some { cls := .none, data := .fields ps }
    exact k a _ (.inl rfl) e
  | met f y =>
    have e : h.get? a = some (PySem.W.methodObj (.ref f) (.ref y)) := x
    show h'.get? a = some (PySem.W.methodObj (.ref f) (.ref y))
    exact k a _ (.inl rfl) e
  | ext φ => obtain ⟨p, ⟨o, e⟩, st⟩ := x; exact ⟨st _ _ p fun o q => k _ _ (.inl rfl) q, ⟨o, k _ _ (.inl rfl) e⟩, st⟩
theorem HOk.lt (x : HOk P w H h) (e : H a = some o) : a < h.objs.size := (x a o e).lt
theorem HOk.fresh (x : HOk P w H h) (e : h.objs.size ≤ a) : H a = none := by
  cases q : H a with
  | none => rfl
  | some u => exact absurd (Nat.lt_of_lt_of_le (x.lt q) e) (Nat.lt_irrefl _)
/-- every object of the heap is kept -/
theorem HOk.kept (x : HOk P w H h) (k : ∀ b u, h.get? b = some u → h'.get? b = some u) : HOk P w H h' := fun a o e =>
  (x a o e).stay (fun b u _ q => k b u q) (fun _ q => q) fun _ _ q => q
/-- a new object is laid and tracked -/
theorem HOk.laid (x : HOk P w H h) (k : ∀ b u, h.get? b = some u → h'.get? b = some u) (hp : h.objs.size ≤ a) (new : ObjOk P w (upd H a o) h' a o) : HOk P w (upd H a o) h' := fun b u e => by
  have hn := x.fresh hp
  by_cases hb : b = a
  · subst hb; rw [upd_same] at e; cases e; exact new
  · rw [upd_ne hb] at e
    exact (x b u e).stay (fun c v _ q => k c v q) (fun c q => by rw [upd_ne (ne_of_none q hn)]; exact q) fun c xs q => by rw [upd_ne (ne_of_none q hn)]; exact q
end

/-- what may be read as u: it is u, or a known u -/
def Rd (H : Hp) (a : Addr) (u : HO) : Prop := H a = some u ∨ ∃ o, H a = some (.frz o u)
theorem Rd.of {H : Hp} {a : Addr} {u : HO} (h : H a = some u) : Rd H a u := .inl h
theorem Rd.ok {P : Program} {w : World} {H : Hp} {h : Heap} {a : Addr} {u : HO} (r : Rd H a u) (x : HOk P w H h) : ObjOk P w H h a u := by
  rcases r with r | ⟨o, r⟩
  · exact x a u r
  · obtain ⟨_, q⟩ := x a _ r
    exact q
/-- what may be written -/
def Mut : Option HO → Prop
  | some (.lst _) => True
  | some (.dK _) => True
  | some (.dT _) => True
  | some (.set _ _) => True
  | some (.ins _ _ _) => True
  | some (.ext _) => True
  | _ => False
section
variable {P : Program} {w : World} {H : Hp} {h h' : Heap} {x e : Addr} {o' : HO}
/-- the object at e is changed: x itself, or the dict of the instance x -/
theorem HOk.write (ok : HOk P w H h) (mu : Mut (H x)) (he : e = x ∨ H e = some (.own x)) (k : ∀ b u, b ≠ e → h.get? b = some u → h'.get? b = some u) (heo : ∃ u, h'.get? e = some u)
    (new : ObjOk P w (upd H x o') h' x o') : HOk P w (upd H x o') h' := fun b u q => by
  have nown : ∀ c y, H c = some (.own y) → c ≠ x := fun c y r z => by subst z; rw [r] at mu; exact mu
  have ntup : ∀ c xs, H c = some (.tup xs) → c ≠ x := fun c xs r z => by subst z; rw [r] at mu; exact mu
  by_cases hb : b = x
  · subst hb; rw [upd_same] at q; cases q; exact new
  · rw [upd_ne hb] at q
    by_cases hbe : b = e
    · have q' : H b = some (.own x) := by
        rcases he with z | z
        · exact absurd (hbe.trans z) hb
        · rw [hbe]; exact z
      rw [q] at q'; cases q'
      obtain ⟨v, hv⟩ := heo
      exact ⟨v, by rw [hbe]; exact hv⟩
    · refine (ok b u q).stay (fun c v hc r => k c v ?_ r) (fun c r => by rw [upd_ne (nown c b r)]; exact r) fun c xs r => by rw [upd_ne (ntup c xs r)]; exact r
      rcases hc with rfl | hc
      · exact hbe
      · rintro rfl
        rcases he with z | z
        · exact nown c b hc z
        · rw [hc] at z; cases z; exact hb rfl
end

/-! ### kept unless tracked; of the frames at fs (the callers') the slots may change (an exception that passes writes there); of the records at ex (iterators) nothing is said -/
structure Un (fs ex : List Addr) (H H' : Hp) (h h' : Heap) : Prop where
  keep : ∀ b o, h.get? b = some o → H b = none → b ∉ fs → b ∉ ex → h'.get? b = some o
  slot : ∀ b o, h.get? b = some o → H b = none → b ∈ fs → b ∉ ex → ∃ sl, h'.get? b = some { o with slots := sl }
  free : ∀ b o, h.get? b = some o → H b = none → b ∉ ex → H' b = none
  there : ∀ b o, h.get? b = some o → b ∉ ex → ∃ o', h'.get? b = some o'
  tups : ∀ b xs, H b = some (.tup xs) → H' b = some (.tup xs)
  frzs : ∀ b o u, H b = some (.frz o u) → H' b = some (.frz o u)
  tbls : ∀ b ps, H b = some (.tbl ps) → ∃ more, H' b = some (.tbl (ps ++ more))
section
variable {fs fs' ex ex' : List Addr} {H H1 H2 : Hp} {h h1 h2 h' : Heap} {a x e : Addr} {o : HO}
theorem Un.any (u : Un fs ex H H1 h h1) {b : Addr} {ob : Obj} (q : h.get? b = some ob) (n : H b = none) (hx : b ∉ ex) : ∃ sl, h1.get? b = some { ob with slots := sl } := by
  by_cases hb : b ∈ fs
  · exact u.slot b ob q n hb hx
  · exact ⟨ob.slots, u.keep b ob q n hb hx⟩
theorem Un.trans (a : Un fs ex H H1 h h1) (b : Un fs ex H1 H2 h1 h2) : Un fs ex H H2 h h2 where
  keep := fun c ob q n hc hx => b.keep c ob (a.keep c ob q n hc hx) (a.free c ob q n hx) hc hx
  slot := fun c ob q n hc hx => by
    obtain ⟨sl, e1⟩ := a.slot c ob q n hc hx
    obtain ⟨sl', e2⟩ := b.slot c _ e1 (a.free c ob q n hx) hc hx
    exact ⟨sl', e2⟩
  free := fun c ob q n hx => by
    obtain ⟨o', e1⟩ := a.there c ob q hx
    exact b.free c o' e1 (a.free c ob q n hx) hx
  there := fun c ob q hx => by
    obtain ⟨o', e1⟩ := a.there c ob q hx
    exact b.there c o' e1 hx
  tups := fun c xs q => b.tups c xs (a.tups c xs q)
  frzs := fun c ob xs q => b.frzs c ob xs (a.frzs c ob xs q)
  tbls := fun c ps q => by
    obtain ⟨m1, e1⟩ := a.tbls c ps q
    obtain ⟨m2, e2⟩ := b.tbls c _ e1
    exact ⟨m1 ++ m2, by rw [e2, Array.append_assoc]⟩
theorem Un.kept (k : ∀ b u, h.get? b = some u → h'.get? b = some u) : Un fs ex H H h h' :=
  ⟨fun b ob q _ _ _ => k b ob q, fun b ob q _ _ _ => ⟨ob.slots, k b ob q⟩, fun _ _ _ n _ => n, fun b ob q _ => ⟨ob, k b ob q⟩, fun _ _ q => q, fun _ _ _ q => q, fun _ ps q => ⟨#[], by rw [q]; simp⟩⟩
theorem Un.refl : Un fs ex H H h h := Un.kept fun _ _ q => q
theorem Un.laid (k : ∀ b u, h.get? b = some u → h'.get? b = some u) (hp : h.objs.size ≤ a) (hn : H a = none) : Un fs ex H (upd H a o) h h' where
  keep := fun b u q _ _ _ => k b u q
  slot := fun b u q _ _ _ => ⟨u.slots, k b u q⟩
  free := fun b u q n _ => by rw [upd_ne (Nat.ne_of_lt (Nat.lt_of_lt_of_le (Heap.lt_size q) hp))]; exact n
  there := fun b u q _ => ⟨u, k b u q⟩
  tups := fun b xs q => by rw [upd_ne (ne_of_none q hn)]; exact q
  frzs := fun b u xs q => by rw [upd_ne (ne_of_none q hn)]; exact q
  tbls := fun b ps q => ⟨#[], by rw [upd_ne (ne_of_none q hn), q]; simp⟩
theorem Un.write (mu : Mut (H x)) (he : e = x ∨ H e = some (.own x)) (k : ∀ b u, b ≠ e → h.get? b = some u → h'.get? b = some u) (heo : ∃ u, h'.get? e = some u) : Un fs ex H (upd H x o) h h' := by
  have hx : ∀ b, H b = none → b ≠ x := fun b n z => by subst z; rw [n] at mu; exact mu
  have hb : ∀ b, H b = none → b ≠ e := fun b n z => by
    subst z
    rcases he with r | r
    · exact hx b n r
    · rw [n] at r; cases r
  have hm : ∀ b u, H b = some u → ¬ Mut (some u) → b ≠ x := fun b u q nm z => by subst z; rw [q] at mu; exact nm mu
  refine ⟨fun b u q n _ _ => k b u (hb b n) q, fun b u q n _ _ => ⟨u.slots, k b u (hb b n) q⟩, fun b u q n _ => by rw [upd_ne (hx b n)]; exact n, fun b u q _ => ?_,
    fun b xs q => by rw [upd_ne (hm b _ q fun z => z)]; exact q, fun b u xs q => by rw [upd_ne (hm b _ q fun z => z)]; exact q, fun b ps q => ⟨#[], by rw [upd_ne (hm b _ q fun z => z), q]; simp⟩⟩
  by_cases hbe : b = e
  · subst hbe; exact heo
  · exact ⟨u, k b u hbe q⟩
theorem Un.mono (u : Un fs ex H H1 h h1) (hs : ∀ b ∈ fs, b ∈ fs') (hx : ∀ b ∈ ex, b ∈ ex') : Un fs' ex' H H1 h h1 :=
  ⟨fun b ob q n hb he => u.keep b ob q n (fun z => hb (hs b z)) fun z => he (hx b z), fun _ _ q n _ he => u.any q n fun z => he (hx _ z), fun b ob q n he => u.free b ob q n fun z => he (hx b z), fun b ob q he => u.there b ob q fun z => he (hx b z), u.tups, u.frzs, u.tbls⟩
end

/-! ### the heap without what is tracked -/
def trk (h : Heap) (H : Hp) : List Addr := (List.range h.objs.size).filter fun a => (H a).isSome
def hidT (h : Heap) (H : Hp) : Heap := PySem.W.hideAll h (trk h H)
theorem hidT_size (h : Heap) (H : Hp) : (hidT h H).objs.size = h.objs.size := PySem.W.hideAll_size _ _
theorem hidT_get {h : Heap} {H : Hp} {b : Addr} {o : Obj} (e : h.get? b = some o) (n : H b = none) : (hidT h H).get? b = some o :=
  PySem.W.hideAll_get _ e fun hm => by
    have q : (H b).isSome = true := (List.mem_filter.mp hm).2
    rw [n] at q; simp at q
theorem of_hidT {h : Heap} {H : Hp} {b : Addr} {o : Obj} (e : (hidT h H).get? b = some o) : h.get? b = some o ∧ H b = none := by
  have e' : h.get? b = some o := PySem.W.of_hideAll (trk h H) e
  refine ⟨e', ?_⟩
  cases q : H b with
  | none => rfl
  | some x =>
    have hm : b ∈ trk h H := List.mem_filter.mpr ⟨List.mem_range.mpr (Heap.lt_size e'), by simp [q]⟩
    have z : (hidT h H).get? b = none := PySem.W.hideAll_none (trk h H) hm
    rw [z] at e; cases e

/-! ### OpenK's ledger, filled with every new object but one -/
def allNews (g h : Heap) (L : Addr) : List (Addr × Obj) := (List.range h.objs.size).filterMap fun a => if a = L ∨ (g.get? a).isSome = true then none else (h.get? a).map fun o => (a, o)
def rest (g h : Heap) (L d : Addr) : List (Addr × Obj) := (allNews g h L).filter fun p => decide (p.1 ≠ d)
end L2

namespace L2
open PySem PySem.Spec PyProof.Rows

/-- the module's facts, over the base: the heap at the law's entry without what is tracked there -/
structure Mod (K : PySem.W.Frag) (mg : Str → Option Value) (base : Heap) : Prop where
  kin : K.In base
  glob : base.Ns mainGlobals mg
  blt : ∃ mb, base.Ns builtinsNs mb ∧ ∀ x : Str, x ≠ "__name__" → mb x = bootBuiltins x
  nolimit : base.NoLimit

/-- the context: a def's body (or a comprehension's block) running. base: fixed through the whole law; s₀, H₀: the entry; outer: the frames whose slots others may change (a def's callers); stack: all frames that run;
   ex: iterators that were made ahead of the entry and are walked here (a comprehension's); fn: the names whose cells were made at the entry (a def: all; a comprehension's block: its own); calm: not within an except suite; pn: pins that every state bears; xe: what is wanted of an exception that leaves the code -/
structure Cx where
  prog : Program
  w : World
  K : PySem.W.Frag
  mg : Str → Option Value
  base : Heap
  A : Around
  N : List Str
  s₀ : Shared
  H₀ : Hp
  env : Env
  outer : List Env
  stack : List Env
  ex : List Addr
  fn : Str → Bool
  calm : Bool
  pn : List (Addr × Obj)
  xe : Value → Shared → Prop
/-- the callers' frames -/
def frs (l : List Env) : List Addr := l.filterMap (·.frame)
abbrev Cx.fs (X : Cx) : List Addr := frs X.outer

def Vis (sc : Scope) (x : Str) : Prop := sc.names.lookup x = some .local ∨ sc.names.lookup x = some .cell ∨ sc.names.lookup x = some .free
def Loc (sc : Scope) (x : Str) : Prop := sc.names.lookup x = some .local ∨ sc.names.lookup x = some .cell
def Look (env : Env) (h : Heap) (m : Str → Option Value) (x : Str) (u : Value) : Prop :=
  (env.kindOf x = some .local ∧ m x = some u) ∨ ((env.kindOf x = some .cell ∨ env.kindOf x = some .free) ∧ ∃ c, env.cells.lookup x = some c ∧ h.IsCell c (some u))

structure Cx.Ok (X : Cx) : Prop where
  mod : Mod X.K X.mg X.base
  kind : X.env.scope.kind = .function
  glob : X.env.globals = mainGlobals
  blt : X.env.builtins = builtinsNs
  above : X.s₀.heap.objs.size ≤ X.env.locals
  inj : ∀ x y c, X.env.cells.lookup x = some c → X.env.cells.lookup y = some c → x = y
  has : ∀ x, (X.env.kindOf x = some .cell ∨ X.env.kindOf x = some .free) → ∃ c, X.env.cells.lookup x = some c
  cab : ∀ x c, X.fn x = true → X.env.cells.lookup x = some c → X.s₀.heap.objs.size ≤ c
  hd : X.calm = true → X.A.handled = none
  frames : X.A.frames = some X.stack
  stk : X.stack = X.outer ∨ (X.stack = X.env :: X.outer ∧ X.env.frame = some X.env.locals)
  exf : ∀ b ∈ X.ex, b ≠ X.env.locals ∧ ∀ x c, X.env.cells.lookup x = some c → c ≠ b
  bs : ∀ b o, X.base.get? b = some o → X.s₀.heap.get? b = some o ∧ X.H₀ b = none
  bsz : X.base.objs.size ≤ X.s₀.heap.objs.size
  noex : ∀ b o, X.base.get? b = some o → b ∉ X.ex
  exfs : ∀ b ∈ X.ex, b ∉ X.fs
  funs : X.s₀.heap.FunFrames X.base X.outer
  frf : ∀ b ∈ X.fs, X.H₀ b = none

structure Inv (X : Cx) (pins : List (Addr × Obj)) (σ : List (Option V)) (H : Hp) (s : Shared) : Prop where
  ok : X.Ok
  os : s.os = X.s₀.os
  bare : AllBare s.gens
  base : Un X.fs X.ex X.H₀ H X.s₀.heap s.heap
  loc : ∃ m, s.heap.Ns X.env.locals m ∧ ∀ (i : Nat) (x : Str) (v : V), X.N[i]? = some x → σ[i]? = some (some v) → Vis X.env.scope x → ∃ u, RelV v u ∧ Look X.env s.heap m x u
  cell : ∀ x c, X.env.cells.lookup x = some c → ∃ v, s.heap.IsCell c v
  free : H X.env.locals = none
  freeC : ∀ x c, X.env.cells.lookup x = some c → H c = none
  pin : ∀ p ∈ X.pn ++ pins, s.heap.get? p.1 = some p.2 ∧ H p.1 = none ∧ p.1 ≠ X.env.locals ∧ p.1 ∉ X.fs ∧ ∀ v, p.2.data ≠ .cell v
  hok : HOk X.prog X.w H s.heap
  len : σ.length = X.N.length

section
variable {X : Cx} {pins : List (Addr × Obj)} {σ : List (Option V)} {H H' : Hp} {s : Shared} {h' : Heap}

theorem Cx.Ok.nofr (ok : X.Ok) {b : Addr} {o : Obj} (e : X.base.get? b = some o) : b ∉ X.fs := fun hb => by
  have := (ok.funs.mem hb).1
  rw [e] at this; cases this
theorem Inv.bs (I : Inv X pins σ H s) : ∀ b o, X.base.get? b = some o → s.heap.get? b = some o ∧ H b = none := fun b o e =>
  ⟨I.base.keep b o (I.ok.bs b o e).1 (I.ok.bs b o e).2 (I.ok.nofr e) (I.ok.noex b o e), I.base.free b o (I.ok.bs b o e).1 (I.ok.bs b o e).2 (I.ok.noex b o e)⟩
theorem Inv.bk (I : Inv X pins σ H s) : ∀ b o, X.base.get? b = some o → s.heap.get? b = some o := fun b o e => (I.bs b o e).1
theorem Inv.mod (I : Inv X pins σ H s) : Mod X.K X.mg X.base := I.ok.mod
theorem Inv.kIn (I : Inv X pins σ H s) : X.K.In s.heap := I.ok.mod.kin.keeps I.bk
theorem Inv.nolimit (I : Inv X pins σ H s) : s.heap.NoLimit := I.ok.mod.nolimit.keeps I.bk
/-- the frame over the base: for OpenK's rules (K.In X.base is I.mod.kin) -/
theorem Inv.fr (I : Inv X pins σ H s) : ∃ m, Fr X.base X.env.locals s.heap m :=
  let ⟨m, hn, _⟩ := I.loc
  ⟨m, hn, I.bk, Nat.le_trans I.ok.bsz I.ok.above⟩
theorem Inv.lt (I : Inv X pins σ H s) : X.env.locals < s.heap.objs.size := let ⟨_, hn, _⟩ := I.loc; hn.lt
theorem Inv.sz (I : Inv X pins σ H s) : X.s₀.heap.objs.size ≤ s.heap.objs.size := Nat.le_trans I.ok.above (Nat.le_of_lt I.lt)
theorem Inv.nofs (I : Inv X pins σ H s) {a : Addr} (h : s.heap.objs.size ≤ a) : a ∉ X.fs := fun hb => by
  obtain ⟨_, o, ho, _⟩ := I.ok.funs.mem hb
  exact absurd (Nat.lt_of_lt_of_le (Heap.lt_size ho) (Nat.le_trans I.sz h)) (Nat.lt_irrefl _)
theorem Inv.cne (I : Inv X pins σ H s) : ∀ x c, X.env.cells.lookup x = some c → c ≠ X.env.locals := fun x c e z => by
  obtain ⟨v, o, ho, hd⟩ := I.cell x c e
  obtain ⟨m, ⟨o', es, ep, ho', hd', _⟩, _⟩ := I.loc
  rw [z, ho'] at ho; cases ho; rw [hd'] at hd; cases hd
theorem Inv.funs (I : Inv X pins σ H s) : s.heap.FunFrames X.base X.outer := by
  have all : ∀ (l : List Env), (∀ b ∈ frs l, b ∈ X.fs) → X.s₀.heap.FunFrames X.base l → s.heap.FunFrames X.base l := by
    intro l
    induction l with
    | nil => intro _ _; trivial
    | cons env r ih =>
      intro hs hl
      obtain ⟨hk, ⟨L, o, hf, hn, ho, hd⟩, hr⟩ := hl
      have hL : L ∈ X.fs := hs L (by unfold frs; rw [List.filterMap_cons, hf]; exact List.mem_cons_self)
      obtain ⟨sl, e⟩ := I.base.slot L o ho (I.ok.frf L hL) hL fun z => I.ok.exfs L z hL
      exact ⟨hk, ⟨L, _, hf, hn, e, hd⟩, ih (fun b hb => hs b (by unfold frs; rw [List.filterMap_cons, hf]; exact List.mem_cons_of_mem _ hb)) hr⟩
  exact all X.outer (fun _ hb => hb) I.ok.funs

/-- the frames that run, for a call -/
theorem Inv.stack (I : Inv X pins σ H s) : s.heap.FunFrames X.base X.stack := by
  rcases I.ok.stk with e | ⟨e, hf⟩
  · rw [e]; exact I.funs
  · rw [e]
    obtain ⟨m, hn, _⟩ := I.loc
    refine .cons (by rw [I.ok.kind]; decide) hf hn ?_ I.funs
    exact Heap.get?_none_of_le (Nat.le_trans I.ok.bsz I.ok.above)
theorem Inv.stkSub (I : Inv X pins σ H s) : ∀ b ∈ frs X.stack, b ∈ X.env.locals :: X.fs := fun b hb => by
  rcases I.ok.stk with e | ⟨e, hf⟩
  · rw [e] at hb; exact List.mem_cons_of_mem _ hb
  · rw [e] at hb
    unfold frs at hb
    rw [List.filterMap_cons, hf] at hb
    exact hb
theorem Inv.stkFree (I : Inv X pins σ H s) : ∀ b ∈ frs X.stack, H b = none := fun b hb => by
  rcases List.mem_cons.mp (I.stkSub b hb) with e | hb
  · rw [e]; exact I.free
  · obtain ⟨_, o, ho, _⟩ := I.ok.funs.mem hb
    exact I.base.free b o ho (I.ok.frf b hb) fun z => I.ok.exfs b z hb

/-- THE STEP: the untracked objects but the frame and the records at ch are kept (the callers' frames up to slots), the frame's map is kept, the new abstract heap is held -/
theorem Inv.step {g' : Array GenState} {t' : Nat} {d' : Drawn} {ch : List Addr} (I : Inv X pins σ H s)
    (hch : ∀ b ∈ ch, (b ∈ X.ex ∨ X.s₀.heap.objs.size ≤ b) ∧ b ≠ X.env.locals ∧ (∀ x c, X.env.cells.lookup x = some c → c ≠ b) ∧ ∀ p ∈ X.pn ++ pins, p.1 ≠ b)
    (keep : ∀ b o, b ≠ X.env.locals → b ∉ X.fs → b ∉ ch → s.heap.get? b = some o → H b = none → h'.get? b = some o)
    (slot : ∀ b o, b ≠ X.env.locals → b ∈ X.fs → b ∉ ch → s.heap.get? b = some o → H b = none → ∃ sl, h'.get? b = some { o with slots := sl }) (free : ∀ b o, b ∉ ch → s.heap.get? b = some o → H b = none → H' b = none)
    (there : ∀ b o, b ∉ ch → s.heap.get? b = some o → ∃ o', h'.get? b = some o')
    (tups : ∀ b xs, H b = some (.tup xs) → H' b = some (.tup xs)) (frzs : ∀ b o u, H b = some (.frz o u) → H' b = some (.frz o u)) (tbls : ∀ b ps, H b = some (.tbl ps) → ∃ more, H' b = some (.tbl (ps ++ more)))
    (ns : ∀ m, s.heap.Ns X.env.locals m → h'.Ns X.env.locals m) (hok : HOk X.prog X.w H' h') (hg : AllBare g') :
    Inv X pins σ H' { s with heap := h', gens := g', drawn := d', toks := t' } := by
  have neL : ∀ b o, X.s₀.heap.get? b = some o → b ≠ X.env.locals := fun b o e => Nat.ne_of_lt (Nat.lt_of_lt_of_le (Heap.lt_size e) I.ok.above)
  have neC : ∀ b o, X.s₀.heap.get? b = some o → b ∉ X.ex → b ∉ ch := fun b o e hx hb => by
    rcases (hch b hb).1 with z | z
    · exact hx z
    · exact absurd (Nat.lt_of_lt_of_le (Heap.lt_size e) z) (Nat.lt_irrefl _)
  have cellK : ∀ x c, X.env.cells.lookup x = some c → ∀ v, s.heap.IsCell c v → h'.IsCell c v := fun x c e v ⟨o, ho, hd⟩ => by
    have nch : c ∉ ch := fun z => (hch c z).2.2.1 x c e rfl
    by_cases hc : c ∈ X.fs
    · obtain ⟨sl, q⟩ := slot c o (I.cne x c e) hc nch ho (I.freeC x c e)
      exact ⟨_, q, hd⟩
    · exact ⟨o, keep c o (I.cne x c e) hc nch ho (I.freeC x c e), hd⟩
  refine ⟨I.ok, I.os, hg, ⟨fun b o e n hb hx => ?_, fun b o e n hb hx => ?_, fun b o e n hx => ?_, fun b o e hx => ?_, fun b xs e => tups b xs (I.base.tups b xs e), fun b o xs e => frzs b o xs (I.base.frzs b o xs e), fun b ps e => ?_⟩, ?_, fun x c e => ?_, ?_, fun x c e => ?_, fun p hp => ?_, hok, I.len⟩
  · exact keep b o (neL b o e) hb (neC b o e hx) (I.base.keep b o e n hb hx) (I.base.free b o e n hx)
  · obtain ⟨sl, e1⟩ := I.base.slot b o e n hb hx
    obtain ⟨sl', e2⟩ := slot b _ (neL b o e) hb (neC b o e hx) e1 (I.base.free b o e n hx)
    exact ⟨sl', e2⟩
  · obtain ⟨o', e1⟩ := I.base.there b o e hx
    exact free b o' (neC b o e hx) e1 (I.base.free b o e n hx)
  · obtain ⟨o', e1⟩ := I.base.there b o e hx
    exact there b o' (neC b o e hx) e1
  · obtain ⟨m1, e1⟩ := I.base.tbls b ps e
    obtain ⟨m2, e2⟩ := tbls b _ e1
    exact ⟨m1 ++ m2, by rw [e2, Array.append_assoc]⟩
  · obtain ⟨m, hn, hl⟩ := I.loc
    refine ⟨m, ns m hn, fun i x v e1 e2 e3 => ?_⟩
    obtain ⟨u, r, l⟩ := hl i x v e1 e2 e3
    refine ⟨u, r, ?_⟩
    rcases l with l | ⟨k, c, e, z⟩
    · exact .inl l
    · exact .inr ⟨k, c, e, cellK x c e _ z⟩
  · obtain ⟨v, z⟩ := I.cell x c e
    exact ⟨v, cellK x c e v z⟩
  · obtain ⟨m, ⟨o, _, _, ho, _⟩, _⟩ := I.loc
    exact free _ o (fun z => (hch _ z).2.1 rfl) ho I.free
  · obtain ⟨v, o, ho, hd⟩ := I.cell x c e
    exact free c o (fun z => (hch c z).2.2.1 x c e rfl) ho (I.freeC x c e)
  · obtain ⟨e, n, ne, nf, d⟩ := I.pin p hp
    have nch : p.1 ∉ ch := fun z => (hch p.1 z).2.2.2 p hp rfl
    exact ⟨keep p.1 p.2 ne nf nch e n, free p.1 p.2 nch e n, ne, nf, d⟩
/-- .. where the frame's own object is kept too -/
theorem Inv.un {t' : Nat} (I : Inv X pins σ H s) (u : Un X.fs [] H H' s.heap h') (hok : HOk X.prog X.w H' h') : Inv X pins σ H' { s with heap := h', toks := t' } := by
  obtain ⟨m, ⟨o, es, ep, ho, r⟩, _⟩ := id I.loc
  obtain ⟨sl, hL⟩ := u.any ho I.free (by simp)
  exact I.step (g' := s.gens) (d' := s.drawn) (ch := []) (fun _ z => nomatch z) (fun b o _ hb _ e n => u.keep b o e n hb (by simp)) (fun b o _ hb _ e n => u.slot b o e n hb (by simp)) (fun b o _ e n => u.free b o e n (by simp)) (fun b o _ e => u.there b o e (by simp)) u.tups u.frzs u.tbls (fun m' hm => by
    obtain ⟨o', es', ep', ho', r'⟩ := hm
    rw [ho] at ho'; cases ho'
    exact ⟨_, es', ep', hL, r'⟩) hok I.bare
/-- behind a call (or a comprehension's block): the slots of this frame may have changed too, the records at ch may have turned -/
theorem Inv.call {g' : Array GenState} {t' : Nat} {d' : Drawn} {ch : List Addr} (I : Inv X pins σ H s) (u : Un (frs X.stack) ch H H' s.heap h') (hok : HOk X.prog X.w H' h') (hg : AllBare g')
    (hch : ∀ b ∈ ch, (b ∈ X.ex ∨ X.s₀.heap.objs.size ≤ b) ∧ b ≠ X.env.locals ∧ (∀ x c, X.env.cells.lookup x = some c → c ≠ b) ∧ ∀ p ∈ X.pn ++ pins, p.1 ≠ b) :
    Inv X pins σ H' { s with heap := h', gens := g', drawn := d', toks := t' } := by
  obtain ⟨m, ⟨o, es, ep, ho, r⟩, _⟩ := id I.loc
  obtain ⟨sl, hL⟩ := u.any ho I.free fun z => (hch _ z).2.1 rfl
  exact I.step (ch := ch) hch (fun b o hL hb hc e n => u.keep b o e n (fun z => (List.mem_cons.mp (I.stkSub b z)).elim hL hb) hc) (fun b o _ _ hc e n => u.any e n hc) (fun b o hc e n => u.free b o e n hc) (fun b o hc e => u.there b o e hc) u.tups u.frzs u.tbls (fun m' hm => by
    obtain ⟨o', es', ep', ho', r'⟩ := hm
    rw [ho] at ho'; cases ho'
    exact ⟨_, es', ep', hL, r'⟩) hok hg
/-- an untracked record of ours (an iterator) has turned -/
theorem Inv.turned {t' : Nat} {it : Addr} (I : Inv X pins σ H s) (k : ∀ b o, b ≠ it → s.heap.get? b = some o → h'.get? b = some o) (hn : H it = none) (hL : it ≠ X.env.locals)
    (h1 : it ∈ X.ex ∨ X.s₀.heap.objs.size ≤ it) (h2 : ∀ x c, X.env.cells.lookup x = some c → c ≠ it) (h3 : ∀ p ∈ X.pn ++ pins, p.1 ≠ it) : Inv X pins σ H { s with heap := h', toks := t' } := by
  have nit : ∀ b u, H b = some u → b ≠ it := fun b u e z => by rw [z, hn] at e; cases e
  refine I.step (g' := s.gens) (d' := s.drawn) (ch := [it]) (fun b hb => ?_) (fun b o _ _ hc e _ => k b o (fun z => hc (by simp [z])) e) (fun b o _ _ hc e _ => ⟨o.slots, k b o (fun z => hc (by simp [z])) e⟩) (fun _ _ _ _ n => n)
    (fun b o hc e => ⟨o, k b o (fun z => hc (by simp [z])) e⟩) (fun _ _ e => e) (fun _ _ _ e => e) (fun b ps e => ⟨#[], by rw [e]; simp⟩) (fun m hm => ?_) (fun b u e => ?_) I.bare
  · have e : b = it := by simpa using hb
    subst e
    exact ⟨h1, hL, h2, h3⟩
  · obtain ⟨o, es, ep, ho, r⟩ := hm
    exact ⟨o, es, ep, k _ o (Ne.symm hL) ho, r⟩
  · refine (I.hok b u e).stay (fun c v hc q => k c v ?_ q) (fun _ q => q) fun _ _ q => q
    rcases hc with z | z
    · rw [z]; exact nit b u e
    · exact nit c _ z
theorem Inv.tok (I : Inv X pins σ H s) (t : Nat) : Inv X pins σ H { s with toks := t } := I.un (h' := s.heap) (t' := t) Un.refl I.hok
/-- all objects kept -/
theorem Inv.kept {t' : Nat} (I : Inv X pins σ H s) (k : ∀ b u, s.heap.get? b = some u → h'.get? b = some u) : Inv X pins σ H { s with heap := h', toks := t' } := I.un (Un.kept k) (I.hok.kept k)
/-- a new object laid and tracked -/
theorem Inv.laid {a : Addr} {o : HO} {t' : Nat} (I : Inv X pins σ H s) (k : ∀ b u, s.heap.get? b = some u → h'.get? b = some u) (hp : s.heap.objs.size ≤ a) (new : ObjOk X.prog X.w (upd H a o) h' a o) :
    Inv X pins σ (upd H a o) { s with heap := h', toks := t' } := I.un (Un.laid k hp (I.hok.fresh hp)) (I.hok.laid k hp new)
/-- an object written -/
theorem Inv.write {x e : Addr} {o : HO} {t' : Nat} (I : Inv X pins σ H s) (mu : Mut (H x)) (he : e = x ∨ H e = some (.own x)) (k : ∀ b u, b ≠ e → s.heap.get? b = some u → h'.get? b = some u) (heo : ∃ u, h'.get? e = some u)
    (new : ObjOk X.prog X.w (upd H x o) h' x o) : Inv X pins σ (upd H x o) { s with heap := h', toks := t' } := I.un (Un.write mu he k heo) (I.hok.write mu he k heo new)
theorem Inv.pins_of {pins' : List (Addr × Obj)} (I : Inv X pins σ H s) (h : ∀ p ∈ pins', s.heap.get? p.1 = some p.2 ∧ H p.1 = none ∧ p.1 ≠ X.env.locals ∧ p.1 ∉ X.fs ∧ ∀ v, p.2.data ≠ .cell v) : Inv X pins' σ H s :=
  ⟨I.ok, I.os, I.bare, I.base, I.loc, I.cell, I.free, I.freeC, fun p hp => (List.mem_append.mp hp).elim (fun z => I.pin p (List.mem_append_left _ z)) (h p), I.hok, I.len⟩

theorem nodup_ix {N : List Str} (hN : N.Nodup) {i j : Nat} {x : Str} (a : N[i]? = some x) (b : N[j]? = some x) : i = j := by
  obtain ⟨h1, e1⟩ := List.getElem?_eq_some_iff.mp a
  obtain ⟨h2, e2⟩ := List.getElem?_eq_some_iff.mp b
  exact (List.getElem_inj hN).mp (e1.trans e2.symm)

/-- a name is stored; what changed -/
theorem store_ok2 {M : Model} {A : Around} {E : Value → Shared → Prop} {i : Nat} {x : Str} {v : V} {u : Value} {Q : Unit → Shared → Prop} (I : Inv X pins σ H s) (hN : X.N.Nodup) (hi : X.N[i]? = some x) (hx : Loc X.env.scope x) (r : RelV v u)
    (h : ∀ s', Inv X pins (σ.set i (some v)) H s' → (∃ a, Heap.SameBut a s.heap s'.heap ∧ (a = X.env.locals ∨ X.env.cells.lookup x = some a)) → Q () s') (hf : X.fn x = true ∨ X.env.scope.names.lookup x = some .local := by first | exact .inl rfl | exact .inr rfl | assumption) : wpAny M A (storeName X.env x u) Q E s := by
  obtain ⟨m, hn, hl⟩ := id I.loc
  have hcls : (X.env.scope.kind == .class || (X.env.scope.kind == .module && X.env.locals != X.env.globals)) = false := by rw [I.ok.kind]; rfl
  have hiσ : i < σ.length := by rw [I.len]; exact (List.getElem?_eq_some_iff.mp hi).1
  have cne := I.cne
  have tracked : ∀ {a : Addr} {h' : Heap}, (∃ o, s.heap.get? a = some o ∧ H a = none) → Heap.SameBut a s.heap h' → HOk X.prog X.w H h' := fun {a h'} ha hs b ob e => by
    obtain ⟨_, _, hfree⟩ := ha
    refine (I.hok b ob e).stay (fun c w' hc q => (hs.2 c ?_).trans q) (fun _ q => q) fun _ _ q => q
    rintro rfl
    rcases hc with rfl | hc
    · rw [hfree] at e; cases e
    · rw [hfree] at hc; cases hc
  rcases hx with hk | hk
  · refine wpAny_storeName_local hk hn (fun h' hn' hs => ?_) hcls
    obtain ⟨oL, _, _, hoL, _⟩ := id hn
    refine h _ ⟨I.ok, I.os, I.bare, ⟨fun b o e n hb hx => ?_, fun b o e n hb hx => ?_, I.base.free, fun b o e hx => ?_, I.base.tups, I.base.frzs, I.base.tbls⟩, ⟨_, hn', fun j y v' e1 e2 e3 => ?_⟩, fun y c e => ?_, I.free, I.freeC, fun p hp => ?_, tracked ⟨oL, hoL, I.free⟩ hs, by simpa using I.len⟩ ⟨_, hs, .inl rfl⟩
    · exact (hs.2 b (Nat.ne_of_lt (Nat.lt_of_lt_of_le (Heap.lt_size e) I.ok.above))).trans (I.base.keep b o e n hb hx)
    · obtain ⟨sl, e1⟩ := I.base.slot b o e n hb hx
      exact ⟨sl, (hs.2 b (Nat.ne_of_lt (Nat.lt_of_lt_of_le (Heap.lt_size e) I.ok.above))).trans e1⟩
    · obtain ⟨o', e1⟩ := I.base.there b o e hx
      exact ⟨o', (hs.2 b (Nat.ne_of_lt (Nat.lt_of_lt_of_le (Heap.lt_size e) I.ok.above))).trans e1⟩
    · by_cases hj : j = i
      · subst hj
        rw [hi] at e1; cases e1
        rw [List.getElem?_set_self hiσ] at e2
        cases e2
        exact ⟨u, r, .inl ⟨hk, by simp⟩⟩
      · rw [List.getElem?_set_ne (Ne.symm hj)] at e2
        obtain ⟨u', r', q⟩ := hl j y v' e1 e2 e3
        refine ⟨u', r', ?_⟩
        rcases q with ⟨k, e⟩ | ⟨k, c, e, z⟩
        · refine .inl ⟨k, ?_⟩
          have : y ≠ x := fun e => hj (nodup_ix hN e1 (e ▸ hi))
          simp [this, e]
        · exact .inr ⟨k, c, e, z.sameBut hs (cne y c e)⟩
    · obtain ⟨w', z⟩ := I.cell y c e
      exact ⟨w', z.sameBut hs (cne y c e)⟩
    · obtain ⟨e, n, ne, nf, d⟩ := I.pin p hp
      exact ⟨(hs.2 p.1 ne).trans e, n, ne, nf, d⟩
  · have hfn : X.fn x = true := by
      rcases hf with z | z
      · exact z
      · rw [z] at hk; cases hk
    obtain ⟨c, hc⟩ := I.ok.has x (.inl hk)
    obtain ⟨w', z⟩ := I.cell x c hc
    refine wpAny_storeName_cell I.ok.kind hk hc z (fun h' hc' hs => ?_)
    obtain ⟨oc, hoc, hocd⟩ := id z
    refine h { s with heap := h' } ⟨I.ok, I.os, I.bare, ⟨fun b o e n hb hx => ?_, fun b o e n hb hx => ?_, I.base.free, fun b o e hx => ?_, I.base.tups, I.base.frzs, I.base.tbls⟩, ⟨m, hn.sameBut hs (Ne.symm (cne x c hc)), fun j y v' e1 e2 e3 => ?_⟩, fun y c' e => ?_, I.free, I.freeC, fun p hp => ?_, tracked ⟨oc, hoc, I.freeC x c hc⟩ hs, by simpa using I.len⟩ ⟨c, hs, .inr hc⟩
    · exact (hs.2 b (Nat.ne_of_lt (Nat.lt_of_lt_of_le (Heap.lt_size e) (I.ok.cab x c hfn hc)))).trans (I.base.keep b o e n hb hx)
    · obtain ⟨sl, e1⟩ := I.base.slot b o e n hb hx
      exact ⟨sl, (hs.2 b (Nat.ne_of_lt (Nat.lt_of_lt_of_le (Heap.lt_size e) (I.ok.cab x c hfn hc)))).trans e1⟩
    · obtain ⟨o', e1⟩ := I.base.there b o e hx
      exact ⟨o', (hs.2 b (Nat.ne_of_lt (Nat.lt_of_lt_of_le (Heap.lt_size e) (I.ok.cab x c hfn hc)))).trans e1⟩
    · by_cases hj : j = i
      · subst hj
        rw [hi] at e1; cases e1
        rw [List.getElem?_set_self hiσ] at e2
        cases e2
        exact ⟨u, r, .inr ⟨.inl hk, c, hc, hc'⟩⟩
      · rw [List.getElem?_set_ne (Ne.symm hj)] at e2
        obtain ⟨u', r', q⟩ := hl j y v' e1 e2 e3
        refine ⟨u', r', ?_⟩
        rcases q with q | ⟨k, c', e, z'⟩
        · exact .inl q
        · refine .inr ⟨k, c', e, z'.sameBut hs ?_⟩
          rintro rfl
          exact hj (nodup_ix hN e1 (I.ok.inj _ _ _ e hc ▸ hi))
    · by_cases hcc : c' = c
      · subst hcc; exact ⟨_, hc'⟩
      · obtain ⟨w2, z2⟩ := I.cell y c' e
        exact ⟨w2, z2.sameBut hs hcc⟩
    · obtain ⟨e, n, ne, nf, d⟩ := I.pin p hp
      refine ⟨(hs.2 p.1 ?_).trans e, n, ne, nf, d⟩
      intro q
      rw [q, hoc] at e
      have q' : oc = p.2 := Option.some.inj e
      exact d w' (by rw [← q']; exact hocd)
theorem store_ok {M : Model} {A : Around} {E : Value → Shared → Prop} {i : Nat} {x : Str} {v : V} {u : Value} {Q : Unit → Shared → Prop} (I : Inv X pins σ H s) (hN : X.N.Nodup) (hi : X.N[i]? = some x) (hx : Loc X.env.scope x) (r : RelV v u)
    (h : ∀ s', Inv X pins (σ.set i (some v)) H s' → Q () s') (hf : X.fn x = true ∨ X.env.scope.names.lookup x = some .local := by first | exact .inl rfl | exact .inr rfl | assumption) : wpAny M A (storeName X.env x u) Q E s :=
  store_ok2 I hN hi hx r (fun s' I' _ => h s' I') hf
/-- behind a call or a block, the state as it is -/
theorem Inv.call' {s' : Shared} {ch : List Addr} (I : Inv X pins σ H s) (ho : s'.os = s.os) (u : Un (frs X.stack) ch H H' s.heap s'.heap) (hok : HOk X.prog X.w H' s'.heap) (hg : AllBare s'.gens)
    (hch : ∀ b ∈ ch, (b ∈ X.ex ∨ X.s₀.heap.objs.size ≤ b) ∧ b ≠ X.env.locals ∧ (∀ x c, X.env.cells.lookup x = some c → c ≠ b) ∧ ∀ p ∈ X.pn ++ pins, p.1 ≠ b) : Inv X pins σ H' s' := by
  obtain ⟨h', g', d', t', o'⟩ := s'
  have e : o' = s.os := ho
  subst e
  exact I.call (g' := g') (t' := t') (d' := d') u hok hg hch
end

/-! ### the judgements -/
/-- an exception: its class, its own dict's address (where it has one), the abstract heap behind it -/
abbrev XK := Value → Option Addr → Hp → Prop
abbrev St := List (Option V)
abbrev VK := V → Hp → Prop
/-- an expression's reading; a test's; an argument list's -/
abbrev TE := St → Hp → VK → Prop
abbrev TT := St → Hp → (Bool → Hp → Prop) → Prop
abbrev TA := St → Hp → (List V → Hp → Prop) → Prop
/-- what is wanted behind a statement -/
structure Ends where
  nx : St → Hp → Prop
  rt : VK
  bk : St → Hp → Prop := fun _ _ => False
  ct : St → Hp → Prop := fun _ _ => False
abbrev TS := Ends → St → Hp → Prop

def EP (X : Cx) (pins : List (Addr × Obj)) (σ : St) (Q : VK) (u : Value) (s' : Shared) : Prop := ∃ v H', Inv X pins σ H' s' ∧ RelV v u ∧ Q v H'
def TP (X : Cx) (pins : List (Addr × Obj)) (σ : St) (Q : Bool → Hp → Prop) (b : Bool) (s' : Shared) : Prop := ∃ H', Inv X pins σ H' s' ∧ Q b H'
def AP (X : Cx) (pins : List (Addr × Obj)) (σ : St) (Q : List V → Hp → Prop) (us : List Value) (s' : Shared) : Prop := ∃ vs H', Inv X pins σ H' s' ∧ Vals vs us ∧ Q vs H'
def SP (X : Cx) (pins : List (Addr × Obj)) (D : Ends) (f : Flow) (s' : Shared) : Prop :=
  match f with
  | .next => ∃ σ' H', Inv X pins σ' H' s' ∧ D.nx σ' H'
  | .brk => ∃ σ' H', Inv X pins σ' H' s' ∧ D.bk σ' H'
  | .cont => ∃ σ' H', Inv X pins σ' H' s' ∧ D.ct σ' H'
  | .ret u => ∃ v σ' H', Inv X pins σ' H' s' ∧ RelV v u ∧ D.rt v H'

def PE (X : Cx) (e : Expr) (t : TE) : Prop :=
  ∀ (pins : List (Addr × Obj)) (s : Shared) (σ : St) (H : Hp) (Q : VK), Inv X pins σ H s → t σ H Q → wpAny (model X.prog X.w) X.A (eval e X.env) (EP X pins σ Q) X.xe s
def PT (X : Cx) (e : Expr) (t : TT) : Prop :=
  ∀ (pins : List (Addr × Obj)) (s : Shared) (σ : St) (H : Hp) (Q : Bool → Hp → Prop), Inv X pins σ H s → t σ H Q → wpAny (model X.prog X.w) X.A (isTrue e X.env (eval e X.env)) (TP X pins σ Q) X.xe s
/-- a test whatever its 'whole' is (and, or) -/
def PW (X : Cx) (e : Expr) (t : TT) : Prop :=
  ∀ (whole : Sem Value) (pins : List (Addr × Obj)) (s : Shared) (σ : St) (H : Hp) (Q : Bool → Hp → Prop), Inv X pins σ H s → t σ H Q → wpAny (model X.prog X.w) X.A (isTrue e X.env whole) (TP X pins σ Q) X.xe s
theorem PW.pt {X : Cx} {e : Expr} {t : TT} (h : PW X e t) : PT X e t := h _
/-- an argument list (no star), from the left -/
def PA (X : Cx) (es : List Expr) (t : TA) : Prop :=
  ∀ (pos : Pos) (pins : List (Addr × Obj)) (s : Shared) (σ : St) (H : Hp) (Q : List V → Hp → Prop), Inv X pins σ H s → t σ H Q → wpAny (model X.prog X.w) X.A (spliced (backTo pos (starEach es X.env))) (AP X pins σ Q) X.xe s
def PS (X : Cx) (st : Stmt) (t : TS) : Prop :=
  ∀ (pins : List (Addr × Obj)) (s : Shared) (σ : St) (H : Hp) (D : Ends), Inv X pins σ H s → t D σ H → wpAny (model X.prog X.w) X.A (exec st X.env) (SP X pins D) X.xe s
def PSs (X : Cx) (st : List Stmt) (t : TS) : Prop :=
  ∀ (pins : List (Addr × Obj)) (s : Shared) (σ : St) (H : Hp) (D : Ends), Inv X pins σ H s → t D σ H → wpAny (model X.prog X.w) X.A (execs st X.env) (SP X pins D) X.xe s
/-- weaken the end -/
theorem thn {α : Type} {t : Sem α} {Q Q' : α → Shared → Prop} {M : Model} {A : Around} {E : Value → Shared → Prop} {s : Shared} (h : wpAny M A t Q E s) (hQ : ∀ a s, Q a s → Q' a s) : wpAny M A t Q' E s := wpAny_mono h hQ fun _ _ x => x
end L2

namespace L2
open PySem PySem.Spec PyProof.Rows
section
variable {X : Cx}

/-- two expressions in a row -/
theorem bin {a b : Expr} {ta tb : TE} (ha : PE X a ta) (hb : PE X b tb) {pins : List (Addr × Obj)} {s : Shared} {σ : St} {H : Hp} {R : V → V → Hp → Prop} (I : Inv X pins σ H s) (h : ta σ H fun x H1 => tb σ H1 fun y H2 => R x y H2)
    {α : Type} {Q : α → Shared → Prop} {f : Value → Value → Sem α}
    (hf : ∀ v u s2 x y H2, Inv X pins σ H2 s2 → RelV x v → RelV y u → R x y H2 → wpAny (model X.prog X.w) X.A (f v u) Q X.xe s2) :
    wpAny (model X.prog X.w) X.A (eval a X.env) (fun v s₁ => wpAny (model X.prog X.w) X.A (eval b X.env) (fun u s₂ => wpAny (model X.prog X.w) X.A (f v u) Q X.xe s₂) X.xe s₁) X.xe s := by
  refine thn (ha pins s σ H _ I h) fun v s1 ⟨x, H1, I1, r1, q1⟩ => ?_
  refine thn (hb pins s1 σ H1 _ I1 q1) fun u s2 ⟨y, H2, I2, r2, q2⟩ => ?_
  exact hf v u s2 x y H2 I2 r1 r2 q2

/-! ### names and constants -/
def tVar (i : Nat) : TE := fun σ H Q => ∃ v, σ[i]? = some (some v) ∧ Q v H
def tC (v : V) : TE := fun _ H Q => Q v H
theorem pe_var {i : Nat} {x : Str} {pos : Pos} (hN : X.N[i]? = some x) (hv : Vis X.env.scope x) (hd : (x == ("__debug__" : Str)) = false := by decide) (hcd : (x == ("__classdict__" : Str)) = false := by decide) : PE X (.Name x pos) (tVar i) := by
  intro pins s σ H Q I h
  obtain ⟨v, e, h⟩ := h
  obtain ⟨m, hn, hl⟩ := I.loc
  obtain ⟨u, r, l⟩ := hl i x v hN e hv
  have fin : EP X pins σ Q u s := ⟨v, H, I, r, h⟩
  rcases l with ⟨hk, hm⟩ | ⟨hk, c, hc, hcell⟩
  · exact wpAny_Name (wpAny_loadName_local I.ok.kind hk hn hm fin) hd
  · rcases hk with hk | hk
    · exact wpAny_Name (wpAny_loadName_cell I.ok.kind hk hc hcell fin) hd
    · exact wpAny_Name (wpAny_loadName_free I.ok.kind hk hc hcell fin hcd) hd
theorem pe_int {i j pos} : PE X (.Constant (.int i) j pos) (tC (.int i)) := fun _ _ _ H _ I h => wpAny_Constant_int ⟨.int i, H, I.tok _, ⟨_, rfl⟩, h⟩
theorem pe_bl {b j pos} : PE X (.Constant (.bool b) j pos) (tC (.bl b)) := fun _ _ _ H _ I h => Constant_bool ⟨.bl b, H, I, rfl, h⟩
theorem pe_non {j pos} : PE X (.Constant .none j pos) (tC .non) := fun _ _ _ H _ I h => Constant_none ⟨.non, H, I, rfl, h⟩
theorem pe_str {x j pos} : PE X (.Constant (.str x) j pos) (tC (.str x)) := fun _ _ _ H _ I h => Calls.Constant_str ⟨.str x, H, I.tok _, ⟨_, rfl⟩, h⟩

/-- a global name of the def -/
def Gl (X : Cx) (x : Str) : Prop := X.env.kindOf x = some .globalImplicit
theorem ld_glob {E : Value → Shared → Prop} {pins : List (Addr × Obj)} {s : Shared} {σ : St} {H : Hp} {x : Str} {u : Value} {pos : Pos} {Q : Value → Shared → Prop} (I : Inv X pins σ H s) (hg : Gl X x) (hm : X.mg x = some u) (h : Q u s)
    (hd : (x == ("__debug__" : Str)) = false := by decide) : wpAny (model X.prog X.w) X.A (eval (.Name x pos) X.env) Q E s :=
  Calls.Name_function_global I.ok.kind hg (Calls.loadGlobal_global (by rw [I.ok.glob]; exact I.mod.glob.keeps I.bk) hm h) hd
theorem ld_blt {E : Value → Shared → Prop} {pins : List (Addr × Obj)} {s : Shared} {σ : St} {H : Hp} {x : Str} {u : Value} {pos : Pos} {Q : Value → Shared → Prop} (I : Inv X pins σ H s) (hg : Gl X x) (hm : X.mg x = none) (hv : bootBuiltins x = some u) (h : Q u s)
    (hn : x ≠ "__name__" := by decide) (hd : (x == ("__debug__" : Str)) = false := by decide) : wpAny (model X.prog X.w) X.A (eval (.Name x pos) X.env) Q E s := by
  obtain ⟨mb, h1, h2⟩ := I.mod.blt
  exact Calls.Name_function_global I.ok.kind hg (Calls.loadGlobal_builtin (by rw [I.ok.glob]; exact I.mod.glob.keeps I.bk) hm (by rw [I.ok.blt]; exact h1.keeps I.bk) ((h2 x hn).trans hv) h) hd
/-- a module's constant, a class, a function, as a value -/
theorem pe_glob {x : Str} {v : V} {u : Value} {pos : Pos} (hg : Gl X x) (hm : X.mg x = some u) (r : RelV v u) (hd : (x == ("__debug__" : Str)) = false := by decide) : PE X (.Name x pos) (tC v) :=
  fun _ _ _ H _ I h => ld_glob I hg hm ⟨v, H, I, r, h⟩ hd
theorem pe_bltn {x : Str} {v : V} {u : Value} {pos : Pos} (hg : Gl X x) (hm : X.mg x = none) (hv : bootBuiltins x = some u) (r : RelV v u) (hn : x ≠ "__name__" := by decide) (hd : (x == ("__debug__" : Str)) = false := by decide) : PE X (.Name x pos) (tC v) :=
  fun _ _ _ H _ I h => ld_blt I hg hm hv ⟨v, H, I, r, h⟩ hn hd

/-! ### arithmetic -/
/-- two ints -/
def t2I (ta tb : TE) (k : Int → Int → Hp → Prop) : St → Hp → Prop := fun σ H => ta σ H fun x H1 => tb σ H1 fun y H2 => ∃ i j, x = .int i ∧ y = .int j ∧ k i j H2
def tAdd (ta tb : TE) : TE := fun σ H Q => t2I ta tb (fun i j H2 => Q (.int (i + j)) H2) σ H
def tSub (ta tb : TE) : TE := fun σ H Q => t2I ta tb (fun i j H2 => Q (.int (i - j)) H2) σ H
/-- the left factor below 2^64 -/
def tMul (ta tb : TE) : TE := fun σ H Q => t2I ta tb (fun i j H2 => (-(2 ^ 64) < i ∧ i < 2 ^ 64) ∧ Q (.int (i * j)) H2) σ H
variable {a b : Expr} {ta tb : TE} {pos : Pos}

/-! ### comparisons -/
def PC (X : Cx) (op : CmpOp) (a b : Expr) (t : TE) : Prop :=
  ∀ (pins : List (Addr × Obj)) (s : Shared) (σ : St) (H : Hp) (Q : VK), Inv X pins σ H s → t σ H Q →
    wpAny (model X.prog X.w) X.A (eval a X.env) (fun v s₁ => wpAny (model X.prog X.w) X.A (eval b X.env) (fun u s₂ => wpAny (model X.prog X.w) X.A (compareOp op v u) (EP X pins σ Q) X.xe s₂) X.xe s₁) X.xe s
theorem nobehind (b : Expr) {op : CmpOp} (h : op ≠ .In) (h2 : op ≠ .NotIn) : behindInMarks op b = false := by
  have e1 : (op == CmpOp.In) = false := by cases op <;> first | rfl | exact absurd rfl h
  have e2 : (op == CmpOp.NotIn) = false := by cases op <;> first | rfl | exact absurd rfl h2
  cases b <;> simp [behindInMarks, e1, e2]
def tCmp (p : Int → Int → Bool) (ta tb : TE) : TE := fun σ H Q => t2I ta tb (fun i j H2 => Q (.bl (p i j)) H2) σ H
abbrev tLt : TE → TE → TE := tCmp fun i j => decide (i < j)
abbrev tLe : TE → TE → TE := tCmp fun i j => decide (i ≤ j)
abbrev tGt : TE → TE → TE := tCmp fun i j => decide (j < i)
abbrev tGe : TE → TE → TE := tCmp fun i j => decide (j ≤ i)
abbrev tEqI : TE → TE → TE := tCmp fun i j => decide (i = j)
abbrev tNeI : TE → TE → TE := tCmp fun i j => !decide (i = j)
/-- is None -/
def tIsN (ta : TE) : TE := fun σ H Q => ta σ H fun x H1 => Q (.bl (decide (x = .non))) H1
def tNotN (ta : TE) : TE := fun σ H Q => ta σ H fun x H1 => Q (.bl (!decide (x = .non))) H1
/-- a comparison as a value, as a test -/
def tB (t : TE) : TT := fun σ H Q => t σ H fun x H1 => ∃ c, x = .bl c ∧ Q c H1
theorem pt_cmp {op : CmpOp} {t : TE} (h : PC X op a b t) (h1 : behindInMarks op b = false := by first | exact nobehind _ (by decide) (by decide) | rfl) : PT X (.Compare a [op] [b] pos) (tB t) := by
  intro pins s σ H Q I hw
  refine wpAny_isTrue_Compare1 (thn (h pins s σ H _ I hw) fun v s1 h1 => thn h1 fun u s2 h2 => thn h2 fun c s3 ⟨x, H1, I1, r1, q1⟩ => ?_) h1
  obtain ⟨d, rfl, q⟩ := q1
  cases r1
  exact wpAny_truthy_bool ⟨H1, I1, q⟩
/-- an expression whose value is a bool, as a test -/
theorem pt_val {e : Expr} {t : TE} (h : PE X e t) (he : ∀ whole, isTrue e X.env whole = (do let v ← whole; standAt e.pos; holding [v] (truthy v)) := by intro _; rfl) : PT X e (tB t) := by
  intro pins s σ H Q I hw
  refine isTrue_plain (thn (h pins s σ H _ I hw) fun v s1 ⟨x, H1, I1, r1, q1⟩ => ?_) (he _)
  obtain ⟨d, rfl, q⟩ := q1
  cases r1
  exact wpAny_truthy_bool ⟨H1, I1, q⟩

/-! ### and, or, not -/
variable {tA tB' : TT} {rest : List Expr}
def tAnd (t u : TT) : TT := fun σ H Q => t σ H fun c H1 => if c = true then u σ H1 Q else Q false H1
def tOr (t u : TT) : TT := fun σ H Q => t σ H fun c H1 => if c = true then Q true H1 else u σ H1 Q
def tNot (t : TT) : TT := fun σ H Q => t σ H fun c H1 => Q (!c) H1
theorem pw_and1 (ha : PT X a tA) : PW X (.BoolOp .And [a] pos) tA := by
  intro wh pins s σ H Q I h
  refine isTrue_and (thn (ha pins s σ H Q I h) fun c s1 e => ?_)
  cases c with
  | true => exact isTrue_and_nil e
  | false => exact e
theorem pw_or1 (ha : PT X a tA) : PW X (.BoolOp .Or [a] pos) tA := by
  intro wh pins s σ H Q I h
  refine isTrue_or (thn (ha pins s σ H Q I h) fun c s1 e => ?_)
  cases c with
  | false => exact isTrue_or_nil e
  | true => exact e
theorem pw_and (ha : PT X a tA) (hb : PW X (.BoolOp .And (b :: rest) pos) tB') : PW X (.BoolOp .And (a :: b :: rest) pos) (tAnd tA tB') := by
  intro wh pins s σ H Q I h
  refine isTrue_and (thn (ha pins s σ H _ I h) fun c s1 ⟨H1, I1, q1⟩ => ?_)
  cases c with
  | true => exact hb wh pins s1 σ H1 Q I1 q1
  | false => exact ⟨H1, I1, q1⟩
theorem pw_or (ha : PT X a tA) (hb : PW X (.BoolOp .Or (b :: rest) pos) tB') : PW X (.BoolOp .Or (a :: b :: rest) pos) (tOr tA tB') := by
  intro wh pins s σ H Q I h
  refine isTrue_or (thn (ha pins s σ H _ I h) fun c s1 ⟨H1, I1, q1⟩ => ?_)
  cases c with
  | true => exact ⟨H1, I1, q1⟩
  | false => exact hb wh pins s1 σ H1 Q I1 q1
theorem pt_not (ha : PT X a tA) : PT X (.UnaryOp .Not a pos) (tNot tA) := by
  intro pins s σ H Q I h
  exact isTrue_not (ha pins s σ H (fun c H1 => Q (!c) H1) I h)
/-- .. as values (bools) -/
def tAndV (ta tb : TE) : TE := fun σ H Q => ta σ H fun x H1 => ∃ c, x = .bl c ∧ if c = true then tb σ H1 Q else Q (.bl false) H1
def tOrV (ta tb : TE) : TE := fun σ H Q => ta σ H fun x H1 => ∃ c, x = .bl c ∧ if c = true then Q (.bl true) H1 else tb σ H1 Q
def tNotV (ta : TE) : TE := fun σ H Q => ta σ H fun x H1 => ∃ c, x = .bl c ∧ Q (.bl (!c)) H1
theorem pe_one {op} {t : TE} (h : PE X a t) : PE X (.BoolOp op [a] pos) t := fun pins s σ H Q I hw => BoolOp_one (h pins s σ H Q I hw)
theorem pe_and (ha : PE X a ta) (hb : PE X (.BoolOp .And (b :: rest) pos) tb) : PE X (.BoolOp .And (a :: b :: rest) pos) (tAndV ta tb) := by
  intro pins s σ H Q I h
  refine BoolOp_and (thn (ha pins s σ H _ I h) fun v s1 ⟨x, H1, I1, r1, q1⟩ => ?_)
  obtain ⟨c, rfl, q1⟩ := q1
  cases r1
  refine wpAny_truthy_bool ?_
  cases c with
  | true => exact hb pins s1 σ H1 Q I1 q1
  | false => exact ⟨.bl false, H1, I1, rfl, q1⟩
theorem pe_not (ha : PE X a ta) : PE X (.UnaryOp .Not a pos) (tNotV ta) := by
  intro pins s σ H Q I h
  refine UnaryOp_ (thn (ha pins s σ H _ I h) fun v s1 ⟨x, H1, I1, r1, q1⟩ => ?_)
  obtain ⟨c, rfl, q1⟩ := q1
  cases r1
  exact not_of (wpAny_truthy_bool ⟨.bl (!c), H1, I1, rfl, q1⟩)
/-- a if t else b -/
def tIf (t : TT) (ta tb : TE) : TE := fun σ H Q => t σ H fun c H1 => if c = true then ta σ H1 Q else tb σ H1 Q
end
end L2

namespace L2
open PySem PySem.Spec PyProof.Rows

/-! ### a list, a tuple that is read: tracked, frozen, or an object of the module -/
def SqL (K : PySem.W.Frag) (H : Hp) (a : Addr) (xs : List V) : Prop :=
  Rd H a (.lst xs) ∨
    ∃ (o : Obj) (its : Array Value) (n : Nat), K.lookup a = some o ∧ o.cls = .type "list" ∧ o.dict = none ∧ o.data = .seq its n ∧ its.size ≤ sizeLine ∧ Vals xs its.toList
def SqT (K : PySem.W.Frag) (H : Hp) (a : Addr) (xs : List V) : Prop :=
  Rd H a (.tup xs) ∨
    ∃ (o : Obj) (its : Array Value) (n : Nat), K.lookup a = some o ∧ o.cls = .type "tuple" ∧ o.data = .seq its n ∧ its.size ≤ sizeLine ∧ Vals xs its.toList
def absV : Value → Option V
  | .none => some .non
  | .bool b => some (.bl b)
  | .int i _ => some (.int i)
  | .str x _ => some (.str x)
  | .bytes b _ => some (.byt b)
  | .float b _ => some (.flt b)
  | .ref a => some (.ref a)
  | .type n => some (.ty n)
  | _ => none
theorem RelV.abs {x : V} {u : Value} (r : RelV x u) : absV u = some x := by
  cases x with
  | non => cases r; rfl
  | bl _ => cases r; rfl
  | int _ => obtain ⟨t, rfl⟩ := r; rfl
  | str _ => obtain ⟨t, rfl⟩ := r; rfl
  | byt _ => obtain ⟨t, rfl⟩ := r; rfl
  | flt _ => obtain ⟨t, rfl⟩ := r; rfl
  | ref _ => cases r; rfl
  | ty _ => cases r; rfl
theorem RelV.inj {x y : V} {u : Value} (r : RelV x u) (q : RelV y u) : x = y := Option.some.inj (r.abs.symm.trans q.abs)
theorem Vals.inj : ∀ {xs ys : List V} {us : List Value}, Vals xs us → Vals ys us → xs = ys
  | _, _, _, .nil, .nil => rfl
  | _, _, _, .cons r t, .cons r' t' => by rw [r.inj r', Vals.inj t t']
section
variable {X : Cx} {pins : List (Addr × Obj)} {σ : St} {H : Hp} {s : Shared} {a : Addr} {xs ys : List V}
theorem SqL.of {K : PySem.W.Frag} (h : H a = some (.lst xs)) : SqL K H a xs := .inl (.inl h)
theorem SqT.of {K : PySem.W.Frag} (h : H a = some (.tup xs)) : SqT K H a xs := .inl (.inl h)
theorem Inv.list (I : Inv X pins σ H s) (h : SqL X.K H a xs) : ∃ its : List Value, Vals xs its ∧ PlainL s.heap a its.toArray ∧ xs.length ≤ sizeLine := by
  rcases h with h | ⟨o, its, n, hk, hc, hd, hs, hz, r⟩
  · obtain ⟨z, its, n, r, e⟩ := h.ok I.hok
    exact ⟨its, r, ⟨_, n, e, rfl, rfl, rfl⟩, z⟩
  · refine ⟨its.toList, r, ⟨o, n, I.kIn a o hk, hc, hd, by simpa using hs⟩, ?_⟩
    have e := r.length
    simp only [Array.length_toList] at e
    omega
theorem Inv.tuple (I : Inv X pins σ H s) (h : SqT X.K H a xs) : ∃ its : List Value, Vals xs its ∧ IsTup s.heap a its.toArray ∧ xs.length ≤ sizeLine := by
  rcases h with h | ⟨o, its, n, hk, hc, hs, hz, r⟩
  · obtain ⟨z, its, r, p⟩ := h.ok I.hok
    exact ⟨its, r, p, z⟩
  · refine ⟨its.toList, r, ⟨o, I.kIn a o hk, hc, n, by simpa using hs⟩, ?_⟩
    have e := r.length
    simp only [Array.length_toList] at e
    omega
theorem Inv.list_inj (I : Inv X pins σ H s) (h : SqL X.K H a xs) (h' : SqL X.K H a ys) : xs = ys := by
  obtain ⟨its, r, ⟨o, n, e, _, _, d⟩, _⟩ := I.list h
  obtain ⟨its', r', ⟨o', n', e', _, _, d'⟩, _⟩ := I.list h'
  rw [e] at e'; cases e'
  rw [d] at d'
  injection d' with d1 _
  have : its = its' := by simpa using congrArg Array.toList d1
  subst this
  exact r.inj r'
theorem Inv.tuple_inj (I : Inv X pins σ H s) (h : SqT X.K H a xs) (h' : SqT X.K H a ys) : xs = ys := by
  obtain ⟨its, r, ⟨o, e, _, n, d⟩, _⟩ := I.tuple h
  obtain ⟨its', r', ⟨o', e', _, n', d'⟩, _⟩ := I.tuple h'
  rw [e] at e'; cases e'
  rw [d] at d'
  injection d' with d1 _
  have : its = its' := by simpa using congrArg Array.toList d1
  subst this
  exact r.inj r'
end

/-! ### another wish about exceptions -/
abbrev Cx.wish (X : Cx) (E : Value → Shared → Prop) : Cx := { X with xe := E }
/-- no exception leaves -/
abbrev Cx.nox (X : Cx) : Cx := X.wish fun _ _ => False
theorem Cx.Ok.wish {X : Cx} (ok : X.Ok) (E : Value → Shared → Prop) : (X.wish E).Ok :=
  ⟨ok.mod, ok.kind, ok.glob, ok.blt, ok.above, ok.inj, ok.has, ok.cab, ok.hd, ok.frames, ok.stk, ok.exf, ok.bs, ok.bsz, ok.noex, ok.exfs, ok.funs, ok.frf⟩
theorem Cx.Ok.unwish {X : Cx} {E : Value → Shared → Prop} (ok : (X.wish E).Ok) : X.Ok :=
  ⟨ok.mod, ok.kind, ok.glob, ok.blt, ok.above, ok.inj, ok.has, ok.cab, ok.hd, ok.frames, ok.stk, ok.exf, ok.bs, ok.bsz, ok.noex, ok.exfs, ok.funs, ok.frf⟩
section
variable {X : Cx} {pins : List (Addr × Obj)} {σ : St} {H : Hp} {s : Shared} {E : Value → Shared → Prop}
theorem Inv.wish (I : Inv X pins σ H s) (E : Value → Shared → Prop) : Inv (X.wish E) pins σ H s := ⟨I.ok.wish E, I.os, I.bare, I.base, I.loc, I.cell, I.free, I.freeC, I.pin, I.hok, I.len⟩
theorem Inv.unwish (I : Inv (X.wish E) pins σ H s) : Inv X pins σ H s := ⟨I.ok.unwish, I.os, I.bare, I.base, I.loc, I.cell, I.free, I.freeC, I.pin, I.hok, I.len⟩
theorem SP.unwish {D : Ends} {f : Flow} {s' : Shared} (h : SP (X.wish E) pins D f s') : SP X pins D f s' := by
  cases f with
  | next => obtain ⟨σ', H', I, q⟩ := h; exact ⟨σ', H', I.unwish, q⟩
  | brk => obtain ⟨σ', H', I, q⟩ := h; exact ⟨σ', H', I.unwish, q⟩
  | cont => obtain ⟨σ', H', I, q⟩ := h; exact ⟨σ', H', I.unwish, q⟩
  | ret u => obtain ⟨v, σ', H', I, r, q⟩ := h; exact ⟨v, σ', H', I.unwish, r, q⟩
theorem PE.nox {e : Expr} {t : TE} (h : PE X.nox e t) : PE X e t := fun pins s σ H Q I hw =>
  wpAny_mono (h pins s σ H Q (I.wish _) hw) (fun _ _ ⟨v, H', I', r, q⟩ => ⟨v, H', I'.unwish, r, q⟩) fun _ _ z => False.elim z
theorem PT.nox {e : Expr} {t : TT} (h : PT X.nox e t) : PT X e t := fun pins s σ H Q I hw =>
  wpAny_mono (h pins s σ H Q (I.wish _) hw) (fun _ _ ⟨H', I', q⟩ => ⟨H', I'.unwish, q⟩) fun _ _ z => False.elim z
theorem PSs.nox {st : List Stmt} {t : TS} (h : PSs X.nox st t) : PSs X st t := fun pins s σ H D I hw =>
  wpAny_mono (h pins s σ H D (I.wish _) hw) (fun _ _ q => q.unwish) fun _ _ z => False.elim z
end

/-! ### blocks and small statements -/
section
variable {X : Cx} {st : Stmt} {rest : List Stmt} {t u : TS} {e : Expr} {te : TE} {pos : Pos}
def tNext : TS := fun D σ H => D.nx σ H
def tSeq (t u : TS) : TS := fun D σ H => t { D with nx := u D } σ H
theorem pss_nil : PSs X [] tNext := fun _ _ σ H _ I h => wpAny_execs_nil ⟨σ, H, I, h⟩
theorem pss_cons (h1 : PS X st t) (h2 : PSs X rest u) : PSs X (st :: rest) (tSeq t u) := by
  intro pins s σ H D I h
  refine wpAny_execs_cons (thn (h1 pins s σ H { D with nx := u D } I h) fun f s1 q => ?_)
  cases f with
  | next =>
    obtain ⟨σ', H', I', q⟩ := q
    exact h2 pins s1 σ' H' D I' q
  | ret v => exact q
  | brk => exact q
  | cont => exact q
theorem pss_one (h1 : PS X st t) : PSs X [st] t := by
  intro pins s σ H D I h
  refine wpAny_execs_cons (thn (h1 pins s σ H D I h) fun f s1 q => ?_)
  cases f with
  | next => exact wpAny_execs_nil q
  | ret v => exact q
  | brk => exact q
  | cont => exact q
def tBreak : TS := fun D σ H => D.bk σ H
def tCont : TS := fun D σ H => D.ct σ H
/-- in a def's body nothing is shown -/
theorem Inv.quiet {pins : List (Addr × Obj)} {σ : St} {H : Hp} {s : Shared} (I : Inv X pins σ H s) : interactive X.env = false := by simp [interactive, I.ok.kind]
/-- an expression whose value is dropped -/
def tDrop (te : TE) : TS := fun D σ H => te σ H fun _ H1 => D.nx σ H1
theorem ps_expr (he : PE X e te) (hs : swapsWith e none pos.line X.env = pure false := by rfl) : PS X (.Expr e pos) (tDrop te) := by
  intro pins s σ H D I h
  exact wpAny_Expr_any (thn (he pins s σ H _ I h) fun v s1 ⟨x, H1, I1, r1, q1⟩ => ⟨σ, H1, I1, q1⟩) I.quiet hs
def tRet (te : TE) : TS := fun D σ H => te σ H D.rt
theorem ps_ret (he : PE X e te) : PS X (.Return (some e) pos) (tRet te) := by
  intro pins s σ H D I h
  exact wpAny_Return_some (thn (he pins s σ H _ I h) fun v s1 ⟨x, H1, I1, r1, q1⟩ => ⟨x, σ, H1, I1, r1, q1⟩)
def tRetN : TS := fun D _ H => D.rt .non H
def tIfS (c : TT) (t u : TS) : TS := fun D σ H => c σ H fun b H1 => if b = true then t D σ H1 else u D σ H1
theorem ps_if {c : Expr} {a b : List Stmt} {tc : TT} (hc : PT X c tc) (ha : PSs X a t) (hb : PSs X b u) : PS X (.If c a b pos) (tIfS tc t u) := by
  intro pins s σ H D I h
  refine wpAny_If (thn (hc pins s σ H _ I h) fun d s1 ⟨H1, I1, q1⟩ => ?_)
  cases d with
  | true => exact ha pins s1 σ H1 D I1 q1
  | false => exact hb pins s1 σ H1 D I1 q1
/-- code that the proof never comes to -/
def tNever : TS := fun _ _ _ => False
end

/-! ### targets -/
abbrev TG := V → St → Hp → (St → Hp → Prop) → Prop
abbrev TGs := List V → St → Hp → (St → Hp → Prop) → Prop
def PG (X : Cx) (target : Expr) (t : TG) : Prop :=
  ∀ (pins : List (Addr × Obj)) (s : Shared) (σ : St) (H : Hp) (v : V) (u : Value) (Q : St → Hp → Prop), Inv X pins σ H s → RelV v u → t v σ H Q →
    wpAny (model X.prog X.w) X.A (assign target X.env u) (fun _ s' => ∃ σ' H', Inv X pins σ' H' s' ∧ Q σ' H') X.xe s
/-- several targets, one after another -/
def PGs (X : Cx) (ts : List Expr) (t : TGs) : Prop :=
  ∀ (pins : List (Addr × Obj)) (s : Shared) (σ : St) (H : Hp) (vs : List V) (us : List Value) (Q : St → Hp → Prop), Inv X pins σ H s → Vals vs us → t vs σ H Q →
    wpAny (model X.prog X.w) X.A (assignInOrder ((assignEach ts X.env).map (·.2)) us) (fun _ s' => ∃ σ' H', Inv X pins σ' H' s' ∧ Q σ' H') X.xe s
/-- o[i] = v, by values -/
abbrev TSet := V → V → V → Hp → (Hp → Prop) → Prop
def PSet (X : Cx) (t : TSet) : Prop :=
  ∀ (pins : List (Addr × Obj)) (s : Shared) (σ : St) (H : Hp) (o i v : V) (ov iv u : Value) (Q : Hp → Prop), Inv X pins σ H s → RelV o ov → RelV i iv → RelV v u → t o i v H Q →
    wpAny (model X.prog X.w) X.A (setItem ov iv u) (fun _ s' => ∃ H', Inv X pins σ H' s' ∧ Q H') X.xe s
/-- a op= b, by values -/
abbrev TIp := V → V → Hp → VK → Prop
def PIp (X : Cx) (op : Operator) (t : TIp) : Prop :=
  ∀ (pins : List (Addr × Obj)) (s : Shared) (σ : St) (H : Hp) (x y : V) (v u : Value) (Q : VK), Inv X pins σ H s → RelV x v → RelV y u → t x y H Q →
    wpAny (model X.prog X.w) X.A (inplaceOp op v u) (EP X pins σ Q) X.xe s
section
variable {X : Cx} {pos : Pos}
def gName (i : Nat) : TG := fun v σ H Q => Q (σ.set i (some v)) H
theorem pg_name {i : Nat} {x : Str} (hN : X.N.Nodup) (hi : X.N[i]? = some x) (hx : Loc X.env.scope x) (hf : X.fn x = true ∨ X.env.scope.names.lookup x = some .local := by first | exact .inl rfl | exact .inr rfl | assumption) : PG X (.Name x pos) (gName i) := by
  intro pins s σ H v u Q I r h
  exact wpAny_assign_Name (store_ok I hN hi hx r (fun s' I' => ⟨_, H, I', h⟩) hf)
def gNil : TGs := fun vs σ H Q => vs = [] ∧ Q σ H
def gCons (t : TG) (u : TGs) : TGs := fun vs σ H Q => ∃ v r, vs = v :: r ∧ t v σ H fun σ' H' => u r σ' H' Q
/-- (a, b, ..) = a tuple of that length -/
def gTup (K : PySem.W.Frag) (n : Nat) (t : TGs) : TG := fun v σ H Q => ∃ a xs, v = .ref a ∧ SqT K H a xs ∧ xs.length = n ∧ t xs σ H Q
/-- o[i] = .. -/
def gSub (to ti : TE) (t : TSet) : TG := fun v σ H Q => to σ H fun o H1 => ti σ H1 fun i H2 => t o i v H2 fun H3 => Q σ H3
theorem pg_sub {o i : Expr} {to ti : TE} {t : TSet} (ho : PE X o to) (hi : PE X i ti) (hs : PSet X t)
    (ha : ∀ v, assign (.Subscript o i pos) X.env v = (do
      let ov ← holding [v] (eval o X.env)
      let iv ← holding [v, ov] (eval i X.env)
      standAt pos
      holding [v, ov, iv] (setItem ov iv v)
      release [v, ov, iv] []) := by intro _; rfl) : PG X (.Subscript o i pos) (gSub to ti t) := by
  intro pins s σ H v u Q I r h
  rw [ha]
  refine wpAny_bind (wpAny_holding (thn (ho pins s σ H _ I h) fun ov s1 ⟨x, H1, I1, r1, q1⟩ => ?_))
  refine wpAny_bind (wpAny_holding (thn (hi pins s1 σ H1 _ I1 q1) fun iv s2 ⟨y, H2, I2, r2, q2⟩ => ?_))
  refine wpAny_bind (wpAny_standAt (wpAny_bind (wpAny_holding (thn (hs pins s2 σ H2 x y v ov iv u _ I2 r1 r2 r q2) fun _ s3 ⟨H3, I3, q3⟩ => ?_))))
  exact wpAny_release ⟨σ, H3, I3, q3⟩
/-- target = value -/
def tAsg (te : TE) (g : TG) : TS := fun D σ H => te σ H fun x H1 => g x σ H1 D.nx
theorem ps_asg {tg e : Expr} {te : TE} {g : TG} (he : PE X e te) (hg : PG X tg g) (hs : swapsWithSole [tg] e pos.line X.env = pure false := by rfl) (hw : swappedStores [tg] e X.env = pure none := by rfl)
    (h1 : (assignEach [tg] X.env).map (·.2) = [assign tg X.env] := by rfl) : PS X (.Assign [tg] e pos) (tAsg te g) := by
  intro pins s σ H D I h
  refine wpAny_Assign_stores (thn (he pins s σ H _ I h) fun v s1 ⟨x, H1, I1, r1, q1⟩ => ?_) hs hw
  rw [h1]
  exact thn (hg pins s1 σ H1 x v _ I1 r1 q1) fun _ s2 q => q
/-- name = value -/
theorem ps_set {i : Nat} {x : Str} {e : Expr} {te : TE} {pos' : Pos} (hN : X.N.Nodup) (hi : X.N[i]? = some x) (hx : Loc X.env.scope x) (he : PE X e te) (hs : swapsWith e (some (.Name x pos')) pos.line X.env = pure false := by rfl) (hf : X.fn x = true ∨ X.env.scope.names.lookup x = some .local := by first | exact .inl rfl | exact .inr rfl | assumption) :
    PS X (.Assign [.Name x pos'] e pos) (tAsg te (gName i)) := by
  intro pins s σ H D I h
  refine wpAny_Assign_Name (thn (he pins s σ H _ I h) fun v s1 ⟨y, H1, I1, r1, q1⟩ => ?_) hs
  exact store_ok I1 hN hi hx r1 (fun s2 I2 => ⟨_, H1, I2, q1⟩) hf
/-- a, b = x, y with plain local names: stored from the right; the pair itself is not tracked (the opening rows as in PyProof/Rows/TupAssign.lean:23) -/
def tPar (i j : Nat) (ta : TA) : TS := fun D σ H => ta σ H fun vs H1 => ∃ v w, vs = [v, w] ∧ D.nx ((σ.set i (some v)).set j (some w)) H1
/-- name op= e -/
def tAug (i : Nat) (te : TE) (ti : TIp) : TS := fun D σ H => ∃ x, σ[i]? = some (some x) ∧ te σ H fun y H1 => ti x y H1 fun z H2 => D.nx (σ.set i (some z)) H2
/-- o[i] op= e -/
def tAugS (to ti te : TE) (tget : V → V → Hp → VK → Prop) (tip : TIp) (tset : TSet) : TS := fun D σ H => to σ H fun o H1 => ti σ H1 fun i H2 => tget o i H2 fun x H3 => te σ H3 fun y H4 => tip x y H4 fun z H5 => tset o i z H5 fun H6 => D.nx σ H6
/-- o[i], by values -/
def PGet (X : Cx) (t : V → V → Hp → VK → Prop) : Prop :=
  ∀ (pins : List (Addr × Obj)) (s : Shared) (σ : St) (H : Hp) (o i : V) (ov iv : Value) (Q : VK), Inv X pins σ H s → RelV o ov → RelV i iv → t o i H Q →
    wpAny (model X.prog X.w) X.A (getItem ov iv) (EP X pins σ Q) X.xe s
/-- ints -/
def ipI (f : Int → Int → Int) : TIp := fun x y H Q => ∃ i j, x = .int i ∧ y = .int j ∧ Q (.int (f i j)) H
end

/-! ### while -/
section
variable {X : Cx} {pos : Pos}
/-- the invariant W with its measure -/
def tWhile (c : TT) (tb : TS) : TS := fun D σ H => ∃ W : Nat → St → Hp → Prop, (∃ m, W m σ H) ∧ ∀ m σ H, W m σ H →
  c σ H fun b H1 => if b = true then ∃ N : St → Hp → Prop, (∀ σ' H', N σ' H' → ∃ m', m' < m ∧ W m' σ' H') ∧ tb { D with nx := N, ct := N, bk := D.nx } σ H1 else D.nx σ H1
end

/-! ### what a loop or a comprehension walks -/
/-- at turn i: it yields x (the heap may grow), or it stops -/
structure It where
  go : Nat → Hp → Prop
  yld : Nat → Hp → V → Hp → Prop
  stop : Nat → Hp → Prop
/-- the iterator's own objects may turn: they are not the frame's, not pinned, younger than the entry (or a comprehension's own) -/
def FpOk (X : Cx) (pins : List (Addr × Obj)) (H : Hp) (b : Addr) : Prop :=
  H b = none ∧ b ≠ X.env.locals ∧ b ∉ X.fs ∧ (b ∈ X.ex ∨ X.s₀.heap.objs.size ≤ b) ∧ (∀ x c, X.env.cells.lookup x = some c → c ≠ b) ∧ ∀ p ∈ X.pn ++ pins, p.1 ≠ b
theorem Inv.fpOk {X : Cx} {pins : List (Addr × Obj)} {σ : St} {H H' : Hp} {s : Shared} {b : Addr} (I : Inv X pins σ H s) (hb : s.heap.objs.size ≤ b) (hn : H' b = none) : FpOk X pins H' b := by
  refine ⟨hn, Nat.ne_of_gt (Nat.lt_of_lt_of_le I.lt hb), I.nofs hb, .inr (Nat.le_trans I.sz hb), fun x c e z => ?_, fun p hp z => ?_⟩
  · obtain ⟨v, q⟩ := I.cell x c e
    exact absurd (Nat.lt_of_lt_of_le q.lt (by rw [z]; exact hb)) (Nat.lt_irrefl _)
  · exact absurd (Nat.lt_of_lt_of_le (Heap.lt_size (I.pin p hp).1) (by rw [z]; exact hb)) (Nat.lt_irrefl _)
structure Turn (P : Program) (w : World) (K : PySem.W.Frag) (tg : Expr) (J : It) (fp : List Addr) (it : Addr) (tn : Nat → Heap → Prop) : Prop where
  mem : it ∈ fp
  obj : ∀ i h, tn i h → ∀ b ∈ fp, ∃ o, h.get? b = some o ∧ ∀ v, o.data ≠ .cell v
  keep : ∀ i h h', tn i h → (∀ b ∈ fp, ∀ o, h.get? b = some o → h'.get? b = some o) → tn i h'
  item : ∀ (X : Cx), X.prog = P → X.w = w → X.K = K → X.calm = true → ∀ (i : Nat) (pins : List (Addr × Obj)) (s : Shared) (σ : St) (H : Hp) (E : Value → Shared → Prop), Inv X pins σ H s → (∀ b ∈ fp, FpOk X pins H b) → tn i s.heap → J.go i H →
    wpAny (model P w) X.A (pyNext (.ref it)) (fun r s1 => ∃ u, r = some u ∧
      wpAny (model P w) X.A (letOwnedTupleGo tg (.ref it) u) (fun _ s2 => ∃ x H', Inv X pins σ H' s2 ∧ RelV x u ∧ J.yld i H x H' ∧ tn (i + 1) s2.heap ∧ ∀ b ∈ fp, H' b = none) E s1) E s
  done : ∀ (X : Cx), X.prog = P → X.w = w → X.K = K → X.calm = true → ∀ (i : Nat) (pins : List (Addr × Obj)) (s : Shared) (σ : St) (H : Hp) (E : Value → Shared → Prop), Inv X pins σ H s → (∀ b ∈ fp, FpOk X pins H b) → tn i s.heap → J.stop i H →
    wpAny (model P w) X.A (pyNext (.ref it)) (fun r s1 => r = none ∧ Inv X pins σ H s1) E s
  self : ∀ (A : Around) (i : Nat) (s : Shared) (Q : Value → Shared → Prop) (E : Value → Shared → Prop), tn i s.heap → Q (.ref it) s → wpAny (model P w) A (pyIter (.ref it)) Q E s
abbrev TI := St → Hp → (It → Hp → Prop) → Prop
/-- an iterator has come -/
def PIE (X : Cx) (pins : List (Addr × Obj)) (σ : St) (tg : Expr) (R : It → Hp → Prop) (itv : Value) (s2 : Shared) : Prop :=
  ∃ (it : Addr) (fp : List Addr) (tn : Nat → Heap → Prop) (J : It) (H' : Hp), itv = .ref it ∧ Inv X pins σ H' s2 ∧ Turn X.prog X.w X.K tg J fp it tn ∧ tn 0 s2.heap ∧ (∀ b ∈ fp, FpOk X pins H' b) ∧ R J H'
def PI (X : Cx) (tg iter : Expr) (wi : TI) : Prop :=
  ∀ (pins : List (Addr × Obj)) (s : Shared) (σ : St) (H : Hp) (R : It → Hp → Prop), Inv X pins σ H s → wi σ H R →
    wpAny (model X.prog X.w) X.A (eval iter X.env) (fun v s1 => wpAny (model X.prog X.w) X.A (pyIter v) (PIE X pins σ tg R) X.xe s1) X.xe s

/-- the step ahead of the store is nothing for an iterator that keeps no tuple -/
theorem go_of {M : Model} {A : Around} {E : Value → Shared → Prop} {s : Shared} {tg : Expr} {it : Addr} {u : Value} {o : Obj} {n : String} {vs : Array Value} {Q : Unit → Shared → Prop} (ho : s.heap.get? it = some o) (hc : o.cls = .type n) (hd : o.data = .fields vs)
    (hn : ["enumerate", "zip", "dict_itemiterator", "dict_reverseitemiterator", "odict_iterator", "itertools.zip_longest", "itertools.pairwise"].contains n = false) (hQ : Q () s) : wpAny M A (letOwnedTupleGo tg (.ref it) u) Q E s := by
  unfold letOwnedTupleGo
  cases tg <;> first
    | exact wpAny_pure hQ
    | (cases u <;> first
        | exact wpAny_pure hQ
        | (refine wpAny_bind (wpAny_load ho ?_)
           rw [hc, hd]
           show wpAny M A (if (["enumerate", "zip", "dict_itemiterator", "dict_reverseitemiterator", "odict_iterator", "itertools.zip_longest", "itertools.pairwise"].contains n && vs[0]? == some (rawInt _)) = true then _ else _) Q E s
           rw [if_neg (by intro h; rw [hn, Bool.false_and] at h; cases h)]
           exact wpAny_pure hQ))

/-- the list at a, as it stands at each turn (a loop may append to it) -/
def Itl (K : PySem.W.Frag) (a : Addr) : It :=
  ⟨fun i H => ∃ xs x, SqL K H a xs ∧ xs[i]? = some x, fun i H x H' => H' = H ∧ ∀ xs, SqL K H a xs → xs[i]? = some x, fun i H => ∃ xs, SqL K H a xs ∧ xs.length ≤ i⟩
def Itt (K : PySem.W.Frag) (a : Addr) : It :=
  ⟨fun i H => ∃ xs x, SqT K H a xs ∧ xs[i]? = some x, fun i H x H' => H' = H ∧ ∀ xs, SqT K H a xs → xs[i]? = some x, fun i H => ∃ xs, SqT K H a xs ∧ xs.length ≤ i⟩
/-- lo, lo + 1, .. (n of them) -/
def Itr (lo : Int) (n : Nat) : It := ⟨fun i _ => i < n, fun i H x H' => H' = H ∧ x = .int (lo + i), fun i _ => n ≤ i⟩
theorem turn_list {P : Program} {w : World} {K : PySem.W.Frag} {tg : Expr} (a it : Addr) : Turn P w K tg (Itl K a) [it] it (fun i h => h.IsListIter it a i) where
  mem := by simp
  obj := fun i h st b hb => by
    have e : b = it := by simpa using hb
    subst e
    obtain ⟨o, e, c, d⟩ := st
    exact ⟨o, e, fun v z => by rw [d] at z; cases z⟩
  keep := fun i h h' st k => st.at fun o e => k it (by simp) o e
  item := by
    intro X hP hw hK hc i pins s σ H E I hf st hg
    subst hP hw hK
    obtain ⟨xs, x, hq, hx⟩ := hg
    obtain ⟨its, rv, p, hz⟩ := I.list hq
    obtain ⟨u, hu, ru⟩ := rv.get hx
    obtain ⟨f0, f1, f2, f3, f4, f5⟩ := hf it (by simp)
    refine wpAny_pyNext_list_item st p.isList (x := u) (by simpa using hu) fun h' st' sb => ?_
    have I1 : Inv X pins σ H { s with heap := h' } := I.turned (t' := s.toks) (fun b o hb e => (sb.2 b hb).trans e) f0 f1 f3 f4 f5
    obtain ⟨o, e, c, d⟩ := id st'
    exact ⟨u, rfl, go_of (s := { s with heap := h' }) e c d (by decide) ⟨x, H, I1, ru, ⟨rfl, fun ys hy => by rw [I.list_inj hy hq]; exact hx⟩, st', fun b hb => (hf b hb).1⟩⟩
  done := by
    intro X hP hw hK hc i pins s σ H E I hf st hg
    subst hP hw hK
    obtain ⟨xs, hq, hx⟩ := hg
    obtain ⟨its, rv, p, hz⟩ := I.list hq
    obtain ⟨f0, f1, f2, f3, f4, f5⟩ := hf it (by simp)
    have hl := rv.length
    exact wpAny_pyNext_list_end (I.ok.hd hc) st p.isList (by simp; omega) fun h' eb => ⟨rfl, I.turned (t' := s.toks) (fun b o hb e => eb b o hb e) f0 f1 f3 f4 f5⟩
  self := fun _ _ _ _ _ st h => wpAny_pyIter_listiter st h
theorem turn_tuple {P : Program} {w : World} {K : PySem.W.Frag} {tg : Expr} (a it : Addr) : Turn P w K tg (Itt K a) [it] it (fun i h => h.IsTupleIter it a i) where
  mem := by simp
  obj := fun i h st b hb => by
    have e : b = it := by simpa using hb
    subst e
    obtain ⟨o, e, c, d⟩ := st
    exact ⟨o, e, fun v z => by rw [d] at z; cases z⟩
  keep := fun i h h' st k => st.at fun o e => k it (by simp) o e
  item := by
    intro X hP hw hK hc i pins s σ H E I hf st hg
    subst hP hw hK
    obtain ⟨xs, x, hq, hx⟩ := hg
    obtain ⟨its, rv, p, hz⟩ := I.tuple hq
    obtain ⟨u, hu, ru⟩ := rv.get hx
    obtain ⟨f0, f1, f2, f3, f4, f5⟩ := hf it (by simp)
    refine wpAny_pyNext_tuple_item st (show s.heap.IsTuple a its.toArray from p) (x := u) (by simpa using hu) fun h' st' sb => ?_
    have I1 : Inv X pins σ H { s with heap := h' } := I.turned (t' := s.toks) (fun b o hb e => (sb.2 b hb).trans e) f0 f1 f3 f4 f5
    obtain ⟨o, e, c, d⟩ := id st'
    exact ⟨u, rfl, go_of (s := { s with heap := h' }) e c d (by decide) ⟨x, H, I1, ru, ⟨rfl, fun ys hy => by rw [I.tuple_inj hy hq]; exact hx⟩, st', fun b hb => (hf b hb).1⟩⟩
  done := by
    intro X hP hw hK hc i pins s σ H E I hf st hg
    subst hP hw hK
    obtain ⟨xs, hq, hx⟩ := hg
    obtain ⟨its, rv, p, hz⟩ := I.tuple hq
    obtain ⟨f0, f1, f2, f3, f4, f5⟩ := hf it (by simp)
    have hl := rv.length
    exact wpAny_pyNext_tuple_end (I.ok.hd hc) st (show s.heap.IsTuple a its.toArray from p) (by simp; omega) fun h' eb => ⟨rfl, I.turned (t' := s.toks) (fun b o hb e => eb b o hb e) f0 f1 f3 f4 f5⟩
  self := fun _ _ _ _ _ st h => wpAny_pyIter_tupleiter st h
theorem turn_range {P : Program} {w : World} {K : PySem.W.Frag} {tg : Expr} (it : Addr) (lo : Int) (n : Nat) : Turn P w K tg (Itr lo n) [it] it (fun i h => IsRangeIter h it (lo + (i : Nat) * 1) ((n : Int) - (i : Nat)) 1) where
  mem := by simp
  obj := fun i h st b hb => by
    have e : b = it := by simpa using hb
    subst e
    exact ⟨_, st, fun v z => by
      have z' : Data.fields _ = Data.cell v := z
      cases z'⟩
  keep := fun i h h' st k => k it (by simp) _ st
  item := by
    intro X hP hw hK hc i pins s σ H E I hf st hg
    subst hP hw hK
    obtain ⟨f0, f1, f2, f3, f4, f5⟩ := hf it (by simp)
    have W := Walks.range (prog := X.prog) (w := X.w) (I.ok.hd hc) it lo 1 n
    refine W.item i s _ _ hg st fun v h' tk hv st' kk => ?_
    obtain ⟨t, rfl⟩ := hv
    have I1 : Inv X pins σ H { s with heap := h', toks := tk } := I.turned (fun b o hb e => kk b o (by simpa using hb) e) f0 f1 f3 f4 f5
    refine ⟨_, rfl, go_of (s := { s with heap := h', toks := tk }) (n := "range_iterator") st' rfl rfl (by decide) ⟨.int (lo + i), H, I1, ⟨t, ?_⟩, ⟨rfl, rfl⟩, st', fun b hb => (hf b hb).1⟩⟩
    rw [Int.mul_one]
  done := by
    intro X hP hw hK hc i pins s σ H E I hf st hg
    subst hP hw hK
    obtain ⟨f0, f1, f2, f3, f4, f5⟩ := hf it (by simp)
    exact wpAny_pyNext_range_end (I.ok.hd hc) st (by have : n ≤ i := hg; omega) fun h' eb => ⟨rfl, I.turned (t' := s.toks) (fun b o hb e => eb b o hb e) f0 f1 f3 f4 f5⟩
  self := fun _ _ _ _ _ st h => wpAny_pyIter_rangeiter st h
end L2

namespace L2
open PySem PySem.Spec PyProof.Rows
section
variable {X : Cx} {tg : Expr}
def iList (K : PySem.W.Frag) (tl : TE) : TI := fun σ H R => tl σ H fun x H1 => ∃ a, x = .ref a ∧ (∃ xs, SqL K H1 a xs) ∧ R (Itl K a) H1
def iTup (K : PySem.W.Frag) (tl : TE) : TI := fun σ H R => tl σ H fun x H1 => ∃ a, x = .ref a ∧ (∃ xs, SqT K H1 a xs) ∧ R (Itt K a) H1
theorem pi_list {l : Expr} {tl : TE} (hl : PE X l tl) : PI X tg l (iList X.K tl) := by
  intro pins s σ H R I h
  refine thn (hl pins s σ H _ I h) fun v s1 ⟨x, H1, I1, r1, q1⟩ => ?_
  obtain ⟨a, e, ⟨xs, hq⟩, q⟩ := q1
  subst e
  cases r1
  obtain ⟨its, rv, p, hz⟩ := I1.list hq
  refine wpAny_pyIter_list p.isList ?_
  refine ⟨s1.heap.objs.size, [s1.heap.objs.size], _, _, H1, rfl, I1.kept (t' := s1.toks) fun b o e => Heap.get?_push_of_some _ e, turn_list a _, ⟨_, Heap.get?_push_size _ rfl, rfl, rfl⟩, fun b hb => ?_, q⟩
  have e : b = s1.heap.objs.size := by simpa using hb
  subst e
  exact I1.fpOk (Nat.le_refl _) (I1.hok.fresh (Nat.le_refl _))
theorem pi_tup {l : Expr} {tl : TE} (hl : PE X l tl) : PI X tg l (iTup X.K tl) := by
  intro pins s σ H R I h
  refine thn (hl pins s σ H _ I h) fun v s1 ⟨x, H1, I1, r1, q1⟩ => ?_
  obtain ⟨a, e, ⟨xs, hq⟩, q⟩ := q1
  subst e
  cases r1
  obtain ⟨its, rv, p, hz⟩ := I1.tuple hq
  refine wpAny_pyIter_tuple (show s1.heap.IsTuple a its.toArray from p) ?_
  refine ⟨s1.heap.objs.size, [s1.heap.objs.size], _, _, H1, rfl, I1.kept (t' := s1.toks) fun b o e => Heap.get?_push_of_some _ e, turn_tuple a _, ⟨_, Heap.get?_push_size _ rfl, rfl, rfl⟩, fun b hb => ?_, q⟩
  have e : b = s1.heap.objs.size := by simpa using hb
  subst e
  exact I1.fpOk (Nat.le_refl _) (I1.hok.fresh (Nat.le_refl _))
/-- a range object just made, walked -/
theorem range_it {pins : List (Addr × Obj)} {σ : St} {H : Hp} {s : Shared} {R : It → Hp → Prop} {E : Value → Shared → Prop} {lo hi : Int} {t u v : Tok} {tk : Nat} (I : Inv X pins σ H s) (h1 : -(2 ^ 62) ≤ lo) (h2 : lo < 2 ^ 62) (h3 : -(2 ^ 62) ≤ hi) (h4 : hi < 2 ^ 62)
    (q : R (Itr lo (hi - lo).toNat) H) : wpAny (model X.prog X.w) X.A (pyIter (.ref s.heap.objs.size)) (PIE X pins σ tg R) E { s with heap := s.heap.push { cls := .type "range", data := .fields #[.int lo t, .int hi u, .int 1 v] }, toks := tk } := by
  refine wpAny_pyIter_range (IsRange.new ..) (small_one h1 h2 h3 h4) ?_
  have I1 : Inv X pins σ H { s with heap := s.heap.push { cls := .type "range", data := .fields #[.int lo t, .int hi u, .int 1 v] }, toks := tk } := I.kept fun b o e => Heap.get?_push_of_some _ e
  refine ⟨(s.heap.push { cls := .type "range", data := .fields #[.int lo t, .int hi u, .int 1 v] }).objs.size, [(s.heap.push { cls := .type "range", data := .fields #[.int lo t, .int hi u, .int 1 v] }).objs.size], _, _, H, rfl,
    I1.kept (t' := tk) fun b o e => Heap.get?_push_of_some _ e, turn_range _ lo (hi - lo).toNat, ?_, fun b hb => ?_, q⟩
  · have e1 : lo + ((0 : Nat) : Int) * 1 = lo := by simp
    have e2 : (((hi - lo).toNat : Nat) : Int) - ((0 : Nat) : Int) = Builtin.Range.rangeSize lo hi 1 := by rw [rangeSize_one]; split <;> omega
    show IsRangeIter _ _ (lo + ((0 : Nat) : Int) * 1) ((((hi - lo).toNat : Nat) : Int) - ((0 : Nat) : Int)) 1
    rw [e1, e2]
    exact Heap.get?_push_size _ rfl
  · have e : b = (s.heap.push { cls := .type "range", data := .fields #[.int lo t, .int hi u, .int 1 v] }).objs.size := by simpa using hb
    subst e
    exact I1.fpOk (Nat.le_refl _) (I1.hok.fresh (Nat.le_refl _))
def iRng1 (ta : TA) : TI := fun σ H R => ta σ H fun vs H1 => ∃ j : Int, vs = [.int j] ∧ -(2 ^ 62) ≤ j ∧ j < 2 ^ 62 ∧ R (Itr 0 j.toNat) H1
def iRng2 (ta : TA) : TI := fun σ H R => ta σ H fun vs H1 => ∃ i j : Int, vs = [.int i, .int j] ∧ (-(2 ^ 62) ≤ i ∧ i < 2 ^ 62 ∧ -(2 ^ 62) ≤ j ∧ j < 2 ^ 62) ∧ R (Itr i (j - i).toNat) H1
theorem pi_range1 {a : Expr} {ta : TA} {p pos : Pos} (hg : Gl X "range") (hm : X.mg "range" = none) (ha : PA X [a] ta) (hs : starEach [a] X.env = [(false, eval a X.env)] := by rfl) : PI X tg (.Call (.Name "range" p) [a] [] pos) (iRng1 ta) := by
  intro pins s σ H R I h
  refine Call_ (ld_blt I hg hm boot_range (PyProof.Rows.callWith_type1 (thn (ha pos pins s σ H _ I h) fun us s1 ⟨vs, H1, I1, r1, q1⟩ => ?_) hs rfl))
  obtain ⟨j, e, q1, q2, q⟩ := q1
  subst e
  cases r1 with
  | cons r rr =>
    cases rr
    obtain ⟨t, rfl⟩ := r
    exact call_range_1 (range_it I1 (by omega) (by omega) q1 q2 (by simpa using q))

/-! ### for -/
/-- W: the invariant by the turn and a measure; N: what the body is to reach -/
def tFor (wi : TI) (g : TG) (tb : TS) : TS := fun D σ H => wi σ H fun J H1 => ∃ W : Nat → Nat → St → Hp → Prop, (∃ m, W 0 m σ H1) ∧ ∀ i m σ H, W i m σ H →
  (J.stop i H ∧ D.nx σ H) ∨ (J.go i H ∧ ∃ N : St → Hp → Prop, (∀ σ' H', N σ' H' → ∃ m', m' < m ∧ W (i + 1) m' σ' H') ∧ ∀ x H', J.yld i H x H' → g x σ H' fun σ2 H2 => tb { D with nx := N, ct := N, bk := D.nx } σ2 H2)
/-- the records at fp as they stand -/
def pinsAt (fp : List Addr) (h : Heap) : List (Addr × Obj) := fp.filterMap fun b => (h.get? b).map fun o => (b, o)
theorem mem_pinsAt {fp : List Addr} {h : Heap} {b : Addr} {o : Obj} (hb : b ∈ fp) (e : h.get? b = some o) : (b, o) ∈ pinsAt fp h := List.mem_filterMap.mpr ⟨b, hb, by rw [e]; rfl⟩
theorem of_pinsAt {fp : List Addr} {h : Heap} {p : Addr × Obj} (hp : p ∈ pinsAt fp h) : p.1 ∈ fp ∧ h.get? p.1 = some p.2 := by
  obtain ⟨b, hb, e⟩ := List.mem_filterMap.mp hp
  cases q : h.get? b with
  | none => rw [q] at e; cases e
  | some o =>
    rw [q] at e
    have e' : (b, o) = p := Option.some.inj e
    subst e'
    exact ⟨hb, q⟩
theorem Inv.pinned {pins : List (Addr × Obj)} {σ : St} {H : Hp} {s : Shared} {fp : List Addr} (I : Inv X pins σ H s) (hf : ∀ b ∈ fp, FpOk X pins H b) (ho : ∀ b ∈ fp, ∃ o, s.heap.get? b = some o ∧ ∀ v, o.data ≠ .cell v) : Inv X (pins ++ pinsAt fp s.heap) σ H s :=
  I.pins_of fun p hp => (List.mem_append.mp hp).elim (fun z => I.pin p (List.mem_append_right _ z)) fun z => by
    obtain ⟨hb, e⟩ := of_pinsAt z
    obtain ⟨f0, f1, f2, _⟩ := hf p.1 hb
    obtain ⟨o, e', d⟩ := ho p.1 hb
    rw [e] at e'; cases e'
    exact ⟨e, f0, f1, f2, d⟩
theorem Inv.unpinned {pins pl : List (Addr × Obj)} {σ : St} {H : Hp} {s : Shared} (I : Inv X (pins ++ pl) σ H s) : Inv X pins σ H s := I.pins_of fun p hp => I.pin p (List.mem_append_right _ (List.mem_append_left _ hp))
theorem ps_for {iter : Expr} {body : List Stmt} {wi : TI} {g : TG} {tb : TS} {pos : Pos} (hp : PassesOwn (model X.prog X.w) X.A X.env X.xe) (hc : X.calm = true) (hi : PI X tg iter wi) (hg : PG X tg g) (hb : PSs X body tb)
    (hs : ∀ x, foldedSetIterable iter X.env x = pure x := by intro _; rfl) : PS X (.For tg iter body [] pos) (tFor wi g tb) := by
  intro pins s σ H D I h
  refine wpAny_For (thn (hi pins s σ H _ I h) fun v s1 h1 => thn h1 fun itv s2 h2 => ?_) hs
  obtain ⟨it, fp, tn, J, H2, e, I2, T, st2, f2, W, ⟨m0, w0⟩, turn⟩ := h2
  subst e
  -- what stays true of the iterator's objects through the loop
  have stat : ∀ {H' : Hp}, (∀ b ∈ fp, H' b = none) → ∀ b ∈ fp, FpOk X pins H' b := fun hn b hb => ⟨hn b hb, (f2 b hb).2⟩
  refine codeAny_forLoop_any (fun n s' => ∃ i σ' H', Inv X pins σ' H' s' ∧ tn i s'.heap ∧ (∀ b ∈ fp, H' b = none) ∧ W i n σ' H') ?_ m0 ⟨0, σ, H2, I2, st2, fun b hb => (f2 b hb).1, w0⟩
  rintro n s3 ⟨i, σ3, H3, I3, st3, fr3, w3⟩
  rcases turn i n σ3 H3 w3 with ⟨stop, qn⟩ | ⟨go, N, hN, step⟩
  · refine wpAny_passesOwn hp (thn (T.done X rfl rfl rfl hc i pins s3 σ3 H3 X.xe I3 (stat fr3) st3 stop) fun r s4 ⟨hr, I4⟩ => ?_)
    subst hr
    exact wpAny_execs_nil ⟨σ3, H3, I4, qn⟩
  · refine wpAny_passesOwn hp (thn (T.item X rfl rfl rfl hc i pins s3 σ3 H3 X.xe I3 (stat fr3) st3 go) fun r s4 ⟨u, hr, h4⟩ => ?_)
    subst hr
    refine wpAny_passesOwn hp (thn h4 fun _ s5 ⟨x, H5, I5, r5, y5, st5, fr5⟩ => ?_)
    have I5' := I5.pinned (stat fr5) (T.obj _ _ st5)
    refine wpAny_passesOwn hp (thn (hg _ s5 σ3 H5 x u _ I5' r5 (step x H5 y5)) fun _ s6 ⟨σ6, H6, I6, q6⟩ => ?_)
    refine wpAny_passesOwn hp (thn (hb _ s6 σ6 H6 _ I6 q6) fun f s7 q7 => ?_)
    have again : ∀ {σ7 : St} {H7 : Hp}, Inv X (pins ++ pinsAt fp s5.heap) σ7 H7 s7 → N σ7 H7 → ∃ m, m < n ∧ ∃ i σ' H', Inv X pins σ' H' s7 ∧ tn i s7.heap ∧ (∀ b ∈ fp, H' b = none) ∧ W i m σ' H' := fun {σ7 H7} I7 n7 => by
      obtain ⟨m', hm, w7⟩ := hN σ7 H7 n7
      refine ⟨m', hm, i + 1, σ7, H7, I7.unpinned, T.keep _ _ _ st5 fun b hb o e => (I7.pin (b, o) (List.mem_append_right _ (List.mem_append_right _ (mem_pinsAt hb e)))).1, fun b hb => ?_, w7⟩
      obtain ⟨o, e, d⟩ := T.obj _ _ st5 b hb
      exact (I7.pin (b, o) (List.mem_append_right _ (List.mem_append_right _ (mem_pinsAt hb e)))).2.1
    cases f with
    | next => obtain ⟨σ7, H7, I7, n7⟩ := q7; exact again I7 n7
    | cont => obtain ⟨σ7, H7, I7, n7⟩ := q7; exact again I7 n7
    | brk => obtain ⟨σ7, H7, I7, q7⟩ := q7; exact ⟨σ7, H7, I7.unpinned, q7⟩
    | ret v => obtain ⟨x7, σ7, H7, I7, r7, q7⟩ := q7; exact ⟨x7, σ7, H7, I7.unpinned, r7, q7⟩
end

/-! ### the forms one uses -/
/-- over a list that the body leaves as it is -/
theorem for_list {K : PySem.W.Frag} {a : Addr} {xs : List V} {g : TG} {tb : TS} {D : Ends} {σ : St} {H : Hp} (Pv : Nat → St → Hp → Prop) (h0 : Pv 0 σ H) (hl : ∀ i σ H, i ≤ xs.length → Pv i σ H → SqL K H a xs)
    (hs : ∀ i x σ H, xs[i]? = some x → Pv i σ H → g x σ H fun σ2 H2 => tb { D with nx := Pv (i + 1), ct := Pv (i + 1), bk := D.nx } σ2 H2) (hd : ∀ σ H, Pv xs.length σ H → D.nx σ H) :
    ∃ W : Nat → Nat → St → Hp → Prop, (∃ m, W 0 m σ H) ∧ ∀ i m σ H, W i m σ H →
      ((Itl K a).stop i H ∧ D.nx σ H) ∨ ((Itl K a).go i H ∧ ∃ N : St → Hp → Prop, (∀ σ' H', N σ' H' → ∃ m', m' < m ∧ W (i + 1) m' σ' H') ∧ ∀ x H', (Itl K a).yld i H x H' → g x σ H' fun σ2 H2 => tb { D with nx := N, ct := N, bk := D.nx } σ2 H2) := by
  refine ⟨fun i m σ H => m = xs.length - i ∧ i ≤ xs.length ∧ Pv i σ H, ⟨xs.length, by simp, Nat.zero_le _, h0⟩, ?_⟩
  rintro i m σ H ⟨rfl, hi, p⟩
  have q := hl i σ H hi p
  by_cases hlt : i < xs.length
  · refine .inr ⟨⟨xs, xs[i], q, by simp [hlt]⟩, Pv (i + 1), fun σ' H' p' => ⟨xs.length - (i + 1), by omega, rfl, hlt, p'⟩, fun x H' y => ?_⟩
    obtain ⟨e, y⟩ := y
    subst e
    exact hs i x σ _ (y xs q) p
  · have e : i = xs.length := by omega
    subst e
    exact .inl ⟨⟨xs, q, Nat.le_refl _⟩, hd σ H p⟩
theorem for_tup {K : PySem.W.Frag} {a : Addr} {xs : List V} {g : TG} {tb : TS} {D : Ends} {σ : St} {H : Hp} (Pv : Nat → St → Hp → Prop) (h0 : Pv 0 σ H) (hl : ∀ i σ H, i ≤ xs.length → Pv i σ H → SqT K H a xs)
    (hs : ∀ i x σ H, xs[i]? = some x → Pv i σ H → g x σ H fun σ2 H2 => tb { D with nx := Pv (i + 1), ct := Pv (i + 1), bk := D.nx } σ2 H2) (hd : ∀ σ H, Pv xs.length σ H → D.nx σ H) :
    ∃ W : Nat → Nat → St → Hp → Prop, (∃ m, W 0 m σ H) ∧ ∀ i m σ H, W i m σ H →
      ((Itt K a).stop i H ∧ D.nx σ H) ∨ ((Itt K a).go i H ∧ ∃ N : St → Hp → Prop, (∀ σ' H', N σ' H' → ∃ m', m' < m ∧ W (i + 1) m' σ' H') ∧ ∀ x H', (Itt K a).yld i H x H' → g x σ H' fun σ2 H2 => tb { D with nx := N, ct := N, bk := D.nx } σ2 H2) := by
  refine ⟨fun i m σ H => m = xs.length - i ∧ i ≤ xs.length ∧ Pv i σ H, ⟨xs.length, by simp, Nat.zero_le _, h0⟩, ?_⟩
  rintro i m σ H ⟨rfl, hi, p⟩
  have q := hl i σ H hi p
  by_cases hlt : i < xs.length
  · refine .inr ⟨⟨xs, xs[i], q, by simp [hlt]⟩, Pv (i + 1), fun σ' H' p' => ⟨xs.length - (i + 1), by omega, rfl, hlt, p'⟩, fun x H' y => ?_⟩
    obtain ⟨e, y⟩ := y
    subst e
    exact hs i x σ _ (y xs q) p
  · have e : i = xs.length := by omega
    subst e
    exact .inl ⟨⟨xs, q, Nat.le_refl _⟩, hd σ H p⟩
theorem for_range {lo : Int} {n : Nat} {g : TG} {tb : TS} {D : Ends} {σ : St} {H : Hp} (Pv : Nat → St → Hp → Prop) (h0 : Pv 0 σ H)
    (hs : ∀ i σ H, i < n → Pv i σ H → g (.int (lo + i)) σ H fun σ2 H2 => tb { D with nx := Pv (i + 1), ct := Pv (i + 1), bk := D.nx } σ2 H2) (hd : ∀ σ H, Pv n σ H → D.nx σ H) :
    ∃ W : Nat → Nat → St → Hp → Prop, (∃ m, W 0 m σ H) ∧ ∀ i m σ H, W i m σ H →
      ((Itr lo n).stop i H ∧ D.nx σ H) ∨ ((Itr lo n).go i H ∧ ∃ N : St → Hp → Prop, (∀ σ' H', N σ' H' → ∃ m', m' < m ∧ W (i + 1) m' σ' H') ∧ ∀ x H', (Itr lo n).yld i H x H' → g x σ H' fun σ2 H2 => tb { D with nx := N, ct := N, bk := D.nx } σ2 H2) := by
  refine ⟨fun i m σ H => m = n - i ∧ i ≤ n ∧ Pv i σ H, ⟨n, by simp, Nat.zero_le _, h0⟩, ?_⟩
  rintro i m σ H ⟨rfl, hi, p⟩
  by_cases hlt : i < n
  · refine .inr ⟨hlt, Pv (i + 1), fun σ' H' p' => ⟨n - (i + 1), by omega, rfl, hlt, p'⟩, fun x H' y => ?_⟩
    obtain ⟨e, y⟩ := y
    subst e y
    exact hs i σ _ hlt p
  · have e : i = n := by omega
    subst e
    exact .inl ⟨Nat.le_refl _, hd σ H p⟩
end L2

namespace L2
open PySem PySem.Spec PyProof.Rows

abbrev R2 := V → V → Hp → VK → Prop
/-- a two-place operation on values: f is binaryOp op, inplaceOp op or compareOp op -/
def OpR (X : Cx) (f : Value → Value → Sem Value) (r : R2) : Prop :=
  ∀ (pins : List (Addr × Obj)) (s : Shared) (σ : St) (H : Hp) (x y : V) (v u : Value) (Q : VK), Inv X pins σ H s → RelV x v → RelV y u → r x y H Q →
    wpAny (model X.prog X.w) X.A (f v u) (EP X pins σ Q) X.xe s
/-- a one-place operation -/
def UnR (X : Cx) (f : Value → Sem Value) (r : V → Hp → VK → Prop) : Prop :=
  ∀ (pins : List (Addr × Obj)) (s : Shared) (σ : St) (H : Hp) (x : V) (v : Value) (Q : VK), Inv X pins σ H s → RelV x v → r x H Q →
    wpAny (model X.prog X.w) X.A (f v) (EP X pins σ Q) X.xe s
/-- a call of a value that is known (a builtin, a type) with values -/
def CallR (X : Cx) (f : Value) (r : List V → Hp → VK → Prop) : Prop :=
  ∀ (pins : List (Addr × Obj)) (s : Shared) (σ : St) (H : Hp) (xs : List V) (us : List Value) (Q : VK), Inv X pins σ H s → Vals xs us → r xs H Q →
    wpAny (model X.prog X.w) X.A (call f us) (EP X pins σ Q) X.xe s
/-- a value's truth -/
def TruR (X : Cx) (r : V → Hp → (Bool → Hp → Prop) → Prop) : Prop :=
  ∀ (pins : List (Addr × Obj)) (s : Shared) (σ : St) (H : Hp) (x : V) (v : Value) (Q : Bool → Hp → Prop), Inv X pins σ H s → RelV x v → r x H Q →
    wpAny (model X.prog X.w) X.A (truthy v) (TP X pins σ Q) X.xe s

def tOp (r : R2) (ta tb : TE) : TE := fun σ H Q => ta σ H fun x H1 => tb σ H1 fun y H2 => r x y H2 Q
def tUn (r : V → Hp → VK → Prop) (ta : TE) : TE := fun σ H Q => ta σ H fun x H1 => r x H1 Q
/-- ints in, under C, and a value out -/
def rI (C : Int → Int → Prop) (g : Int → Int → V) : R2 := fun x y H Q => ∃ i j, x = .int i ∧ y = .int j ∧ C i j ∧ Q (g i j) H
def rI0 (g : Int → Int → V) : R2 := fun x y H Q => ∃ i j, x = .int i ∧ y = .int j ∧ Q (g i j) H
def rU (g : Int → V) : V → Hp → VK → Prop := fun x H Q => ∃ i, x = .int i ∧ Q (g i) H

section
variable {X : Cx} {a b c : Expr} {ta tb tc : TE} {pos : Pos}

theorem binT (ha : PE X a ta) (hb : PE X b tb) {pins : List (Addr × Obj)} {s : Shared} {σ : St} {H : Hp} {R : V → V → Hp → Prop} (I : Inv X pins σ H s)
    (h : ta σ H fun x H1 => tb σ H1 fun y H2 => R x y H2) {Q : Value → Shared → Prop} {f : Value → Value → Sem Value}
    (hf : ∀ v u s2 x y H2, Inv X pins σ H2 s2 → RelV x v → RelV y u → R x y H2 → wpAny (model X.prog X.w) X.A (f v u) Q X.xe s2) :
    wpAny (model X.prog X.w) X.A (eval a X.env) (fun v s₁ => wpAny (model X.prog X.w) X.A (eval b X.env) (fun u s₂ => wpAny (model X.prog X.w) X.A (f v u) Q X.xe s₂) X.xe s₁) X.xe s := by
  refine thn (ha pins s σ H _ I h) fun v s1 ⟨x, H1, I1, r1, q1⟩ => ?_
  refine thn (hb pins s1 σ H1 _ I1 q1) fun u s2 ⟨y, H2, I2, r2, q2⟩ => ?_
  exact hf v u s2 x y H2 I2 r1 r2 q2

theorem pe_op {op : Operator} {r : R2} (ho : OpR X (binaryOp op) r) (ha : PE X a ta) (hb : PE X b tb) : PE X (.BinOp a op b pos) (tOp r ta tb) := by
  intro pins s σ H Q I h
  exact wpAny_BinOp (binT ha hb I h fun v u s2 x y H2 I2 rx ry q => ho pins s2 σ H2 x y v u Q I2 rx ry q)
theorem pe_un {op : UnaryOp} {r : V → Hp → VK → Prop} (ho : UnR X (unaryOp op) r) (ha : PE X a ta) : PE X (.UnaryOp op a pos) (tUn r ta) := by
  intro pins s σ H Q I h
  exact UnaryOp_ (thn (ha pins s σ H _ I h) fun v s1 ⟨x, H1, I1, r1, q1⟩ => ho pins s1 σ H1 x v Q I1 r1 q1)

/-! ### ints -/
theorem opI {f : Value → Value → Sem Value} {C : Int → Int → Prop} {g : Int → Int → Int}
    (rule : ∀ (i j : Int) (t u : Tok) (s : Shared) (Q : Value → Shared → Prop) (E : Value → Shared → Prop), C i j → Q (.int (g i j) s.toks) { s with toks := s.toks + 1 } → wpAny (model X.prog X.w) X.A (f (.int i t) (.int j u)) Q E s) :
    OpR X f (rI C fun i j => .int (g i j)) := by
  intro pins s σ H x y v u Q I rx ry h
  obtain ⟨i, j, rfl, rfl, hc, q⟩ := h
  obtain ⟨t, rfl⟩ := rx
  obtain ⟨t', rfl⟩ := ry
  exact rule i j t t' s _ _ hc ⟨.int (g i j), H, I.tok _, ⟨_, rfl⟩, q⟩
theorem opI0 {f : Value → Value → Sem Value} {g : Int → Int → Int}
    (rule : ∀ (i j : Int) (t u : Tok) (s : Shared) (Q : Value → Shared → Prop) (E : Value → Shared → Prop), Q (.int (g i j) s.toks) { s with toks := s.toks + 1 } → wpAny (model X.prog X.w) X.A (f (.int i t) (.int j u)) Q E s) :
    OpR X f (rI0 fun i j => .int (g i j)) := by
  intro pins s σ H x y v u Q I rx ry h
  obtain ⟨i, j, rfl, rfl, q⟩ := h
  obtain ⟨t, rfl⟩ := rx
  obtain ⟨t', rfl⟩ := ry
  exact rule i j t t' s _ _ ⟨.int (g i j), H, I.tok _, ⟨_, rfl⟩, q⟩
theorem opB0 {f : Value → Value → Sem Value} {g : Int → Int → Bool}
    (rule : ∀ (i j : Int) (t u : Tok) (s : Shared) (Q : Value → Shared → Prop) (E : Value → Shared → Prop), Q (.bool (g i j)) s → wpAny (model X.prog X.w) X.A (f (.int i t) (.int j u)) Q E s) :
    OpR X f (rI0 fun i j => .bl (g i j)) := by
  intro pins s σ H x y v u Q I rx ry h
  obtain ⟨i, j, rfl, rfl, q⟩ := h
  obtain ⟨t, rfl⟩ := rx
  obtain ⟨t', rfl⟩ := ry
  exact rule i j t t' s _ _ ⟨.bl (g i j), H, I, rfl, q⟩

def CDiv (i j : Int) : Prop := 0 < j ∧ j < 1073741824
def CDivN (i j : Int) : Prop := j ≠ 0 ∧ j.natAbs < 1073741824
def CPow (i j : Int) : Prop := 0 ≤ j ∧ j ≤ 1000000 ∧ i.natAbs < 2 ^ 64
def CMul (i j : Int) : Prop := (-(2 ^ 64) < i ∧ i < 2 ^ 64) ∨ (-(2 ^ 64) < j ∧ j < 2 ^ 64)
theorem CMul.ok {i j : Int} (h : CMul i j) : IntMulOk i j := by
  rcases h with ⟨h1, h2⟩ | ⟨h1, h2⟩
  · exact .of_left (intBits_le_64 h1 h2)
  · exact .of_right (intBits_le_64 h1 h2)

theorem op_add : OpR X (binaryOp .Add) (rI0 fun i j => .int (i + j)) := opI0 fun _ _ _ _ _ _ _ q => add_int q
theorem op_sub : OpR X (binaryOp .Sub) (rI0 fun i j => .int (i - j)) := opI0 fun _ _ _ _ _ _ _ q => sub_int q
theorem op_mul : OpR X (binaryOp .Mult) (rI CMul fun i j => .int (i * j)) := opI fun _ _ _ _ _ _ _ hc q => mul_int q hc.ok
/-- % by a positive divisor of any size -/
theorem op_mod : OpR X (binaryOp .Mod) (rI (fun _ j => 0 < j) fun i j => .int (i % j)) := opI fun i j _ _ _ _ _ hc q => by
  have h1 : (0 : Int) < j := hc
  exact mod_int' (by omega) (by rw [Int.fmod_eq_emod_of_nonneg i (by omega)]; exact q)
theorem op_pow : OpR X (binaryOp .Pow) (rI CPow fun i j => .int (i ^ j.toNat)) := opI fun _ _ _ _ _ _ _ hc q => pow_int_small hc.1 hc.2.1 hc.2.2 q


theorem unI {f : Value → Sem Value} {g : Int → Int}
    (rule : ∀ (i : Int) (t : Tok) (s : Shared) (Q : Value → Shared → Prop) (E : Value → Shared → Prop), Q (.int (g i) s.toks) { s with toks := s.toks + 1 } → wpAny (model X.prog X.w) X.A (f (.int i t)) Q E s) :
    UnR X f (rU fun i => .int (g i)) := by
  intro pins s σ H x v Q I rx h
  obtain ⟨i, rfl, q⟩ := h
  obtain ⟨t, rfl⟩ := rx
  exact rule i t s _ _ ⟨.int (g i), H, I.tok _, ⟨_, rfl⟩, q⟩
theorem un_neg : UnR X (unaryOp .USub) (rU fun i => .int (-i)) := unI fun _ _ _ _ _ q => neg_int q

/-! ### bools among ints: n += (a < b) -/
end

/-! ### comparisons -/
/-- the scalars that == tells apart as data does -/
def scal : V → V → Bool
  | .non, .non => true | .non, .int _ => true | .int _, .non => true | .non, .bl _ => true | .bl _, .non => true | .non, .str _ => true | .str _, .non => true
  | .int _, .int _ => true | .bl _, .bl _ => true | .str _, .str _ => true | .byt _, .byt _ => true
  | .int _, .str _ => true | .str _, .int _ => true | .bl _, .str _ => true | .str _, .bl _ => true
  | _, _ => false
def rEq : R2 := fun x y H Q => scal x y = true ∧ Q (.bl (decide (x = y))) H
def rNe : R2 := fun x y H Q => scal x y = true ∧ Q (.bl (!decide (x = y))) H

theorem dec_int {i j : Int} : decide (V.int i = V.int j) = (i == j) := by
  rw [Bool.eq_iff_iff]
  simp
theorem dec_bl {i j : Bool} : decide (V.bl i = V.bl j) = (i == j) := by
  rw [Bool.eq_iff_iff]
  simp
theorem dec_str {i j : Str} : decide (V.str i = V.str j) = (i == j) := by
  rw [Bool.eq_iff_iff]
  simp
theorem dec_byt {i j : Array UInt8} : decide (V.byt i = V.byt j) = (i.toList == j.toList) := by
  rw [Bool.eq_iff_iff]
  cases i
  cases j
  simp

section
variable {X : Cx} {a b c : Expr} {ta tb tc : TE} {pos : Pos}
theorem fin_bl {pins : List (Addr × Obj)} {σ : St} {H : Hp} {s : Shared} {Q : VK} {k k' : Bool} (I : Inv X pins σ H s) (q : Q (.bl k) H) (e : k = k') : EP X pins σ Q (.bool k') s := by
  subst e
  exact ⟨.bl k, H, I, rfl, q⟩
theorem op_eq : OpR X (compareOp .Eq) rEq := by
  intro pins s σ H x y v u Q I rx ry h
  obtain ⟨hs, q⟩ := h
  cases x with
  | non =>
    cases rx
    cases y with
    | non => cases ry; exact PySem.EqNone.eq_none_none (fin_bl I q (by simp))
    | bl j => cases ry; exact PySem.EqNone.eq_none_bool (fin_bl I q (by simp))
    | int j => obtain ⟨t', rfl⟩ := ry; exact PySem.EqNone.eq_none_int (fin_bl I q (by simp))
    | str j => obtain ⟨t', rfl⟩ := ry; exact PySem.EqNone.eq_none_str (fin_bl I q (by simp))
    | _ => exact absurd (show false = true from hs) Bool.false_ne_true
  | bl i =>
    cases rx
    cases y with
    | non => cases ry; exact PySem.EqNone.eq_bool_none (fin_bl I q (by simp))
    | bl j => cases ry; exact eq_bool (fin_bl I q dec_bl)
    | str j => obtain ⟨t', rfl⟩ := ry; exact PySem.EqMixed.eq_bool_str (fin_bl I q (by simp))
    | _ => exact absurd (show false = true from hs) Bool.false_ne_true
  | int i =>
    obtain ⟨t, rfl⟩ := rx
    cases y with
    | non => cases ry; exact PySem.EqNone.eq_int_none (fin_bl I q (by simp))
    | int j => obtain ⟨t', rfl⟩ := ry; exact eq_int (fin_bl I q dec_int)
    | str j => obtain ⟨t', rfl⟩ := ry; exact PySem.EqMixed.eq_int_str (fin_bl I q (by simp))
    | _ => exact absurd (show false = true from hs) Bool.false_ne_true
  | str i =>
    obtain ⟨t, rfl⟩ := rx
    cases y with
    | non => cases ry; exact PySem.EqNone.eq_str_none (fin_bl I q (by simp))
    | bl j => cases ry; exact PySem.EqMixed.eq_str_bool (fin_bl I q (by simp))
    | int j => obtain ⟨t', rfl⟩ := ry; exact PySem.EqMixed.eq_str_int (fin_bl I q (by simp))
    | str j => obtain ⟨t', rfl⟩ := ry; exact eq_str (fin_bl I q dec_str)
    | _ => exact absurd (show false = true from hs) Bool.false_ne_true
  | byt i =>
    obtain ⟨t, rfl⟩ := rx
    cases y with
    | byt j => obtain ⟨t', rfl⟩ := ry; exact PySem.W.eq_bytes (fin_bl I q dec_byt)
    | _ => exact absurd (show false = true from hs) Bool.false_ne_true
  | _ => cases y <;> exact absurd (show false = true from hs) Bool.false_ne_true

theorem op_lt : OpR X (compareOp .Lt) (rI0 fun i j => .bl (decide (i < j))) := opB0 fun _ _ _ _ _ _ _ q => lt_int q
theorem op_le : OpR X (compareOp .LtE) (rI0 fun i j => .bl (decide (i ≤ j))) := opB0 fun _ _ _ _ _ _ _ q => le_int q
theorem op_gt : OpR X (compareOp .Gt) (rI0 fun i j => .bl (decide (j < i))) := opB0 fun _ _ _ _ _ _ _ q => gt_int q

/-- is None, is not None: the right side a value none -/
theorem op_isN : OpR X (compareOp .Is) (fun x y H Q => y = .non ∧ Q (.bl (decide (x = .non))) H) := by
  intro pins s σ H x y v u Q I rx ry h
  obtain ⟨rfl, q⟩ := h
  cases ry
  refine is_none_gen (fin_bl I q ?_)
  cases x <;> first
    | (cases rx; rfl)
    | (obtain ⟨t, rfl⟩ := rx; rfl)

/-- is, is not of two objects that are tracked lists or instances -/
def isObj : HO → Bool
  | .lst _ => true
  | .ins _ _ _ => true
  | _ => false

/-- two rules for one operation: by cases -/
theorem OpR.or {f : Value → Value → Sem Value} {r r' : R2} (h : OpR X f r) (h' : OpR X f r') : OpR X f (fun x y H Q => r x y H Q ∨ r' x y H Q) := by
  intro pins s σ H x y v u Q I rx ry q
  rcases q with q | q
  · exact h pins s σ H x y v u Q I rx ry q
  · exact h' pins s σ H x y v u Q I rx ry q

theorem nomark (b : Expr) {op : CmpOp} (h : op ≠ .In := by decide) (h2 : op ≠ .NotIn := by decide) : behindInMarks op b = false := by
  have e1 : (op == CmpOp.In) = false := by cases op <;> first | rfl | exact absurd rfl h
  have e2 : (op == CmpOp.NotIn) = false := by cases op <;> first | rfl | exact absurd rfl h2
  cases b <;> simp [behindInMarks, e1, e2]
/-- a comparison as a value; hm: nomark b, or (for in, not in) by with_unfolding_all rfl -/
theorem pe_cmpR {op : CmpOp} {r : R2} (ho : OpR X (compareOp op) r) (ha : PE X a ta) (hb : PE X b tb) (hm : behindInMarks op b = false) : PE X (.Compare a [op] [b] pos) (tOp r ta tb) := by
  intro pins s σ H Q I h
  exact wpAny_Compare1 (binT ha hb I h fun v u s2 x y H2 I2 rx ry q => ho pins s2 σ H2 x y v u Q I2 rx ry q) hm
/-- a reading of a value as a test -/
def tTest (t : TE) : TT := fun σ H Q => t σ H fun x H' => ∃ k, x = .bl k ∧ Q k H'
theorem pt_cmpR {op : CmpOp} {r : R2} (ho : OpR X (compareOp op) r) (ha : PE X a ta) (hb : PE X b tb) (hm : behindInMarks op b = false) : PT X (.Compare a [op] [b] pos) (tTest (tOp r ta tb)) := by
  intro pins s σ H Q I h
  refine wpAny_isTrue_Compare1 (thn (ha pins s σ H _ I h) fun v s1 ⟨x, H1, I1, r1, q1⟩ => thn (hb pins s1 σ H1 _ I1 q1) fun u s2 ⟨y, H2, I2, r2, q2⟩ =>
    thn (ho pins s2 σ H2 x y v u _ I2 r1 r2 q2) fun c s3 ⟨z, H3, I3, r3, k, e, q3⟩ => ?_) hm
  subst e
  cases r3
  exact wpAny_truthy_bool ⟨H3, I3, q3⟩
/-- a op1 b op2 c -/
def tChain (r r' : R2) (ta tb tc : TE) : TE := fun σ H Q => ta σ H fun x H1 => tb σ H1 fun y H2 => r x y H2 fun z H3 => ∃ k, z = .bl k ∧
  (if k = true then tc σ H3 fun w' H4 => r' y w' H4 Q else Q (.bl false) H3)
theorem pt_chain {op op' : CmpOp} {r r' : R2} (ho : OpR X (compareOp op) r) (ho' : OpR X (compareOp op') r') (ha : PE X a ta) (hb : PE X b tb) (hc : PE X c tc)
    (hm : lastMarks [op, op'] [b, c] = false := by with_unfolding_all rfl) : PT X (.Compare a [op, op'] [b, c] pos) (tTest (tChain r r' ta tb tc)) := by
  intro pins s σ H Q I h
  refine isTrue_chain (thn (ha pins s σ H _ I h) fun v s1 ⟨x, H1, I1, r1, q1⟩ => test_link (thn (hb pins s1 σ H1 _ I1 q1) fun u s2 ⟨y, H2, I2, r2, q2⟩ =>
    thn (ho pins s2 σ H2 x y v u _ I2 r1 r2 q2) fun d s3 ⟨z, H3, I3, r3, k, e, q3⟩ => ?_)) hm
  subst e
  cases r3
  refine wpAny_truthy_bool ?_
  cases k with
  | false =>
    obtain ⟨k', e', q'⟩ := q3
    cases e'
    exact ite_ff ⟨H3, I3, q'⟩
  | true =>
    refine ite_tt (test_last (thn (hc pins s3 σ H3 _ I3 q3) fun w' s4 ⟨z', H4, I4, r4, q4⟩ => thn (ho' pins s4 σ H4 y z' u w' _ I4 r2 r4 q4) fun d' s5 ⟨z2, H5, I5, r5, k2, e2, q5⟩ => ?_))
    subst e2
    cases r5
    exact wpAny_truthy_bool ⟨H5, I5, q5⟩

/-! ### truth -/
/-- a value's truth by the abstract heap -/
def TruV (K : PySem.W.Frag) (x : V) (H : Hp) (k : Bool) : Prop :=
  match x with
  | .non => k = false
  | .bl b => k = b
  | .int i => k = (i != 0)
  | .str y => y.length ≤ sizeLine ∧ k = ((y.length : Int) != 0)
  | .byt y => y.size ≤ sizeLine ∧ k = ((y.size : Int) != 0)
  | .ref p => (∃ xs, SqL K H p xs ∧ k = !xs.isEmpty) ∨ (∃ xs, SqT K H p xs ∧ k = !xs.isEmpty) ∨ ∃ kvs, H p = some (.dK kvs) ∧ k = !kvs.isEmpty
  | _ => False
theorem line63 : (sizeLine : Nat) < 2 ^ 63 := by rw [sizeLine_eq]; decide

/-! ### strs and bytes -/
theorem op_add_str : OpR X (binaryOp .Add) (fun x y H Q => ∃ i j, x = .str i ∧ y = .str j ∧ i.length + j.length ≤ sizeLine ∧ Q (.str (i ++ j)) H) := by
  intro pins s σ H x y v u Q I rx ry h
  obtain ⟨i, j, rfl, rfl, hz, q⟩ := h
  obtain ⟨t, rfl⟩ := rx
  obtain ⟨t', rfl⟩ := ry
  exact add_str (fun t' tk => ⟨.str (i ++ j), H, I.tok _, ⟨_, rfl⟩, q⟩) hz

def PlainIxT (b : Expr) : Prop := ∀ o i, subscripted b false o i = operate [o, i] (getItem o i)

/-! ### scalar builtins, by CallR -/
theorem vals1 {x : V} {us : List Value} (r : Vals [x] us) : ∃ u, us = [u] ∧ RelV x u := by
  cases r with
  | cons r1 r2 => cases r2; exact ⟨_, rfl, r1⟩
theorem vals2 {x y : V} {us : List Value} (r : Vals [x, y] us) : ∃ u w', us = [u, w'] ∧ RelV x u ∧ RelV y w' := by
  cases r with
  | cons r1 r2 =>
    cases r2 with
    | cons r3 r4 => cases r4; exact ⟨_, _, rfl, r1, r3⟩
theorem call_abs : CallR X (.builtin "abs") (fun xs H Q => ∃ i, xs = [.int i] ∧ Q (.int (if i < 0 then -i else i)) H) := by
  intro pins s σ H xs us Q I r h
  obtain ⟨i, rfl, q⟩ := h
  obtain ⟨u, rfl, t, rfl⟩ := vals1 r
  exact call_abs_int fun u tk => ⟨.int (if i < 0 then -i else i), H, I.tok _, ⟨_, rfl⟩, q⟩
theorem call_min2 (hc : X.calm = true) : CallR X (.builtin "min") (fun xs H Q => ∃ i j, xs = [.int i, .int j] ∧ Q (.int (if j < i then j else i)) H) := by
  intro pins s σ H xs us Q I r h
  obtain ⟨i, j, rfl, q⟩ := h
  obtain ⟨u, w', rfl, ⟨t, rfl⟩, ⟨t', rfl⟩⟩ := vals2 r
  refine min_two_ints (I.ok.hd hc) fun h' tk k => ⟨_, H, I.kept k, ?_, q⟩
  by_cases hj : j < i
  · rw [if_pos hj, if_pos hj]; exact ⟨_, rfl⟩
  · rw [if_neg hj, if_neg hj]; exact ⟨_, rfl⟩
theorem call_ord : CallR X (.builtin "ord") (fun xs H Q => ∃ x, xs = [.str x] ∧ x.length = 1 ∧ Q (.int (x.cps.getD 0 0 : Nat)) H) := by
  intro pins s σ H xs us Q I r h
  obtain ⟨x, rfl, hz, q⟩ := h
  obtain ⟨u, rfl, t, rfl⟩ := vals1 r
  exact ord_of_one hz ⟨.int _, H, I.tok _, ⟨_, rfl⟩, q⟩
/-- len of a str, a bytes, a list, a tuple -/
def LenV (K : PySem.W.Frag) (x : V) (H : Hp) (n : Nat) : Prop :=
  match x with
  | .str y => y.length ≤ sizeLine ∧ n = y.length
  | .byt y => y.size ≤ sizeLine ∧ n = y.size
  | .ref p => (∃ xs, SqL K H p xs ∧ n = xs.length) ∨ ∃ xs, SqT K H p xs ∧ n = xs.length
  | _ => False
end
end L2

namespace L2
open PySem PySem.Spec PyProof.Rows

/-! ### an instance, its attributes a map -/
structure ObjM (h : Heap) (x dx C : Addr) (mA : Str → Option Value) : Prop where
  obj : h.get? x = some (PySem.W.instObj C dx)
  ns : h.Ns1 dx mA
  ne : dx ≠ x

theorem lookIn_ns {h : Heap} {dx : Addr} {mA : Str → Option Value} (n : h.Ns1 dx mA) : ∃ od, h.get? dx = some od ∧ ∀ name, PySem.W.lookIn name od = some (mA name) := by
  obtain ⟨o, es, ep, ho, hd, hk, _, hm⟩ := n
  refine ⟨o, ho, fun name => ?_⟩
  have e := hm name
  unfold nsFind findBy at e
  rw [← Array.find?_toList] at e
  unfold PySem.W.lookIn
  rw [hd]
  dsimp only
  split
  · rename_i y q
    rw [q] at e
    exact congrArg some e
  · rename_i q
    rw [q] at e
    have a : es.toList.any (·.refKey) = false := by
      rw [List.any_eq_false]
      intro y hy
      obtain ⟨z, t, hkey⟩ := hk y (Array.mem_toList_iff.mp hy)
      simp [DictEntry.refKey, hkey]
    have a' : ¬ es.toList.any (·.refKey) = true := by rw [a]; exact Bool.false_ne_true
    rw [if_neg a']
    exact congrArg some e

theorem ObjM.look {h : Heap} {x dx C : Addr} {mA : Str → Option Value} (I : ObjM h x dx C mA) : ∃ od, PySem.W.InstAt h x (PySem.W.instObj C dx) C (some od) ∧ ∀ name, PySem.W.lookIn name od = some (mA name) :=
  let ⟨od, ho, hl⟩ := lookIn_ns I.ns
  ⟨od, ⟨I.obj, rfl, rfl, ho⟩, hl⟩

section
variable {prog : Program} {w : World} {A : Around} {E : Value → Shared → Prop} {s : Shared} {K : PySem.W.Frag} {x dx C f : Addr} {mA : Str → Option Value} {name : Str} {v : Value}





end

/-! ### the attributes as a list of pairs -/
def putF (f : Str) (v : V) : List (Str × V) → List (Str × V)
  | [] => [(f, v)]
  | (g, x) :: r => if g = f then (g, v) :: r else (g, x) :: putF f v r


section
variable {P : Program} {w : World} {H H' : Hp} {h h' : Heap} {a C dx : Addr} {fs fs' : List (Str × V)}
theorem ins_get (hok : HOk P w H h) (e : H a = some (.ins C dx fs)) : ∃ mA, ObjM h a dx C mA ∧ (∀ f, RelO (fs.lookup f) (mA f)) ∧ PySem.Within mA (fs.map (·.1)) ∧ fs.length ≤ 1000 ∧ H dx = some (.own a) := by
  obtain ⟨d, z, ne, ob, mA, n, r, q⟩ := (show ObjOk P w H h a (.ins C dx fs) from hok a _ e)
  exact ⟨mA, ⟨ob, n, ne⟩, r, q, z, d⟩
end

/-! ### what of the text a class must have -/
structure Cls (K : PySem.W.Frag) (C : Addr) : Prop where
  pg : PySem.W.plainGet K C Str.empty = true
  hd : PySem.W.hasDictIn K C = true
  po : PySem.W.plainOver K C = true
  sa : PySem.W.findIn K (.ref C) "__setattr__" = some (some (.builtin "object.__setattr__"))
theorem Cls.get {K : PySem.W.Frag} {C : Addr} (c : Cls K C) (f : Str) : PySem.W.plainGet K C f = true := c.pg
/-- no class of it has the name -/
def NoAttr (K : PySem.W.Frag) (C : Addr) (f : Str) : Prop := PySem.W.findIn K (.ref C) f = some none
/-- a constant of the class -/
structure Con (K : PySem.W.Frag) (C : Addr) (f : Str) (v : V) (u : Value) : Prop where
  at_ : PySem.W.findIn K (.ref C) f = some (some u)
  rel : RelV v u
  get : PySem.W.specialIn K u "__get__" = some none
  cp : PySem.W.copiedNames.contains f = false
/-- a method: a plain def of the class or of one above it -/
structure Meth (K : PySem.W.Frag) (C : Addr) (m : Str) (f : Addr) : Prop where
  at_ : PySem.W.findIn K (.ref C) m = some (some (.ref f))
  fn : PySem.W.isFn K (.ref f) = true
  kp : PySem.W.keepIn K (.ref f) = true

section
variable {X : Cx} {pins : List (Addr × Obj)} {σ : St} {H : Hp} {s : Shared} {a C dx : Addr} {fs : List (Str × V)} {f : Str} {v : V} {A : Around} {E : Value → Shared → Prop}






end

/-! ### readings and rules -/
/-- e.f, an attribute of the instance -/
def tFld (K : PySem.W.Frag) (ta : TE) (f : Str) : TE := fun σ H Q => ta σ H fun x H1 => ∃ a C dx fs v, x = .ref a ∧ H1 a = some (.ins C dx fs) ∧ Cls K C ∧ NoAttr K C f ∧ fs.lookup f = some v ∧ Q v H1
/-- e.f, a constant of the class -/
def tCon (K : PySem.W.Frag) (ta : TE) (f : Str) : TE := fun σ H Q => ta σ H fun x H1 => ∃ a C dx fs v u, x = .ref a ∧ H1 a = some (.ins C dx fs) ∧ Cls K C ∧ Con K C f v u ∧ fs.lookup f = none ∧ Q v H1
/-- e.f = value -/
def sFld (K : PySem.W.Frag) (ta tv : TE) (f : Str) : TS := fun D σ H => tv σ H fun y H1 => ta σ H1 fun x H2 => ∃ a C dx fs, x = .ref a ∧ H2 a = some (.ins C dx fs) ∧ Cls K C ∧ NoAttr K C f ∧ fs.length < 1000 ∧
  D.nx σ (upd H2 a (.ins C dx (putF f y fs)))
/-- an augmented operator on two values -/
def InOp (X : Cx) (op : Operator) (rd : V → V → Hp → VK → Prop) : Prop :=
  ∀ (pins : List (Addr × Obj)) (s : Shared) (σ : St) (H : Hp) (x y : V) (u v : Value) (Q : VK), Inv X pins σ H s → RelV x u → RelV y v → rd x y H Q → wpAny (model X.prog X.w) X.A (inplaceOp op u v) (EP X pins σ Q) X.xe s
/-- e.f op= value -/
def sFldAug (K : PySem.W.Frag) (ta tv : TE) (rd : V → V → Hp → VK → Prop) (f : Str) : TS := fun D σ H => ta σ H fun x H1 => ∃ a C dx fs v, x = .ref a ∧ H1 a = some (.ins C dx fs) ∧ Cls K C ∧ NoAttr K C f ∧ fs.lookup f = some v ∧
  tv σ H1 fun y H2 => rd v y H2 fun z H3 => ∃ dx' fs', H3 a = some (.ins C dx' fs') ∧ fs'.length < 1000 ∧ D.nx σ (upd H3 a (.ins C dx' (putF f z fs')))

section
variable {X : Cx} {o e value : Expr} {f : Str} {pos pos' tpos : Pos} {ta tv : TE}
def rAdd : V → V → Hp → VK → Prop := fun x y H Q => ∃ i j, x = .int i ∧ y = .int j ∧ Q (.int (i + j)) H
def rSub : V → V → Hp → VK → Prop := fun x y H Q => ∃ i j, x = .int i ∧ y = .int j ∧ Q (.int (i - j)) H

end

/-! ### isinstance -/
section
variable {X : Cx} {pins : List (Addr × Obj)} {σ : St} {H : Hp} {s : Shared} {A : Around} {E : Value → Shared → Prop} {Q : Value → Shared → Prop} {c : Value} {b : Bool}
/-- the type of a value, as the fragment's deciders take it; for an instance its class -/
inductive TyOf (K : PySem.W.Frag) (H : Hp) : V → Value → Prop where
  | non : TyOf K H .non (.type "NoneType")
  | bl (x : Bool) : TyOf K H (.bl x) (.type "bool")
  | int (i : Int) : TyOf K H (.int i) (.type "int")
  | str (x : Str) : TyOf K H (.str x) (.type "str")
  | flt (x : UInt64) : TyOf K H (.flt x) (.type "float")
  | lst {a : Addr} {xs : List V} (e : H a = some (.lst xs)) : TyOf K H (.ref a) (.type "list")
  | frz {a : Addr} {o : Obj} {xs : List V} (e : H a = some (.frz o (.lst xs))) : TyOf K H (.ref a) (.type "list")
  | tup {a : Addr} {xs : List V} (e : H a = some (.tup xs)) : TyOf K H (.ref a) (.type "tuple")
  | dK {a : Addr} {kvs : List (Key × V)} (e : H a = some (.dK kvs)) : TyOf K H (.ref a) (.type "dict")
  | dT {a : Addr} {kvs : List (List Key × V)} (e : H a = some (.dT kvs)) : TyOf K H (.ref a) (.type "dict")
  | ins {a C dx : Addr} {fs : List (Str × V)} (e : H a = some (.ins C dx fs)) (cl : Cls K C) (ha : PySem.W.findIn K (.ref C) "__class__" = some (some (.builtin "object.__class__")))
      (hn : PySem.W.specialIn K (.builtin "object.__class__") "__get__" = some (some (.builtin "getset_descriptor.__get__"))) (htk : PySem.W.takesIn K (.builtin "object.__class__") = some true)
      (hm : PySem.W.mroIn K C (.type "object") = some true) : TyOf K H (.ref a) (.ref C)
/-- isinstance(x, c) for one class c, a built-in or an own one: kitOne's answer -/
theorem isinst_ok {x : V} {u t : Value} (I : Inv X pins σ H s) (rx : RelV x u) (ty : TyOf X.K H x t) (e : PySem.W.kitOne X.K t c = some b) (h : ∀ tk, Q (.bool b) { s with toks := tk }) :
    wpAny (model X.prog X.w) A (call (.builtin "isinstance") [u, c]) Q E s := by
  cases ty with
  | non => cases (show u = Value.none from rx); exact PySem.W.kia_one PySem.W.kitx_none I.kIn True.intro e (fun z => nomatch z) h
  | bl y => cases (show u = Value.bool y from rx); exact PySem.W.kia_one PySem.W.kitx_bool I.kIn True.intro e (fun z => nomatch z) h
  | int i => obtain ⟨t, q⟩ := (show ∃ t, u = Value.int i t from rx); cases q; exact PySem.W.kia_one PySem.W.kitx_int I.kIn True.intro e (fun z => nomatch z) h
  | str y => obtain ⟨t, q⟩ := (show ∃ t, u = Value.str y t from rx); cases q; exact PySem.W.kia_one PySem.W.kitx_str I.kIn True.intro e (fun z => nomatch z) h
  | flt y => obtain ⟨t, q⟩ := (show ∃ t, u = Value.float y t from rx); cases q; exact PySem.W.kia_one PySem.W.kitx_float I.kIn True.intro e (fun z => nomatch z) h
  | @lst a xs ea =>
    cases (show u = Value.ref a from rx)
    obtain ⟨_, _, n, _, h1⟩ := (show ObjOk X.prog X.w H s.heap a (.lst xs) from I.hok a _ ea)
    exact PySem.W.kia_one PySem.W.kitx_list I.kIn ⟨_, h1, rfl⟩ e (fun z => nomatch z) h
  | @frz a ob xs ea =>
    cases (show u = Value.ref a from rx)
    obtain ⟨_, _, _, n, _, h1⟩ := (show ObjOk X.prog X.w H s.heap a (.frz ob (.lst xs)) from I.hok a _ ea)
    exact PySem.W.kia_one PySem.W.kitx_list I.kIn ⟨_, h1, rfl⟩ e (fun z => nomatch z) h
  | @tup a xs ea =>
    cases (show u = Value.ref a from rx)
    obtain ⟨_, _, _, p⟩ := (show ObjOk X.prog X.w H s.heap a (.tup xs) from I.hok a _ ea)
    obtain ⟨o, h1, h2, _⟩ := p
    exact PySem.W.kia_one PySem.W.kitx_tuple I.kIn ⟨o, h1, h2⟩ e (fun z => nomatch z) h
  | @dK a kvs ea =>
    cases (show u = Value.ref a from rx)
    obtain ⟨_, _, vs, _, p⟩ := (show ObjOk X.prog X.w H s.heap a (.dK kvs) from I.hok a _ ea)
    obtain ⟨o, es, ep, h1, h2, _⟩ := p
    exact PySem.W.kia_one PySem.W.kitx_dict I.kIn ⟨o, h1, h2.1⟩ e (fun z => nomatch z) h
  | @dT a kvs ea =>
    cases (show u = Value.ref a from rx)
    obtain ⟨_, _, xs, _, o, es, ep, h1, h2, _⟩ := (show ObjOk X.prog X.w H s.heap a (.dT kvs) from I.hok a _ ea)
    exact PySem.W.kia_one PySem.W.kitx_dict I.kIn ⟨o, h1, h2.1⟩ e (fun z => nomatch z) h
  | @ins a C dx fs ea cl ha hn htk hm =>
    cases (show u = Value.ref a from rx)
    obtain ⟨mA, O, _⟩ := ins_get I.hok ea
    obtain ⟨od, J, _⟩ := O.look
    exact PySem.W.kia_one (PySem.W.kitx_own (cl.get _) cl.hd ha hn htk hm) I.kIn J e (fun z => nomatch z) h
end
end L2

namespace L2
open PySem PySem.Spec PyProof.Rows

/-! ### room -/
structure Room (k : Nat) (A : Around) : Prop where
  hd : A.handled = none
  dp : A.depth + 3 * k + 5 < recursionLimit
  un : A.units + 16 * k + 200 < cLine
theorem Room.mono {j k : Nat} {A : Around} (r : Room k A) (h : j ≤ k) : Room j A := ⟨r.hd, by have := r.dp; omega, by have := r.un; omega⟩
theorem Room.deeper {k : Nat} {A : Around} (r : Room (k + 1) A) (env : Env) : Room k (A.deeper env) :=
  ⟨r.hd, by have := r.dp; show A.depth + 1 + 3 * k + 5 < _; omega, by have := r.un; show A.units + 3 + 16 * k + 200 < _; omega⟩
theorem Room.in1 {k : Nat} {A : Around} (r : Room (k + 1) A) : Room k A.in1 :=
  ⟨r.hd, by have := r.dp; show A.depth + 3 * k + 5 < _; omega, by have := r.un; show A.units + 1 + 16 * k + 200 < _; omega⟩
theorem Room.depth {k : Nat} {A : Around} (r : Room k A) : A.depth < recursionLimit := by have := r.dp; omega
theorem Room.units {k : Nat} {A : Around} (r : Room k A) : A.units + 64 < cLine := by have := r.un; omega

/-! ### argument lists and displays -/
def tNil : TA := fun _ H Q => Q [] H
def tCons (ta : TE) (tr : TA) : TA := fun σ H Q => ta σ H fun x H1 => tr σ H1 fun xs H2 => Q (x :: xs) H2
section
variable {X : Cx} {e : Expr} {es : List Expr} {te : TE} {t : TA} {pos : Pos}
theorem pa_nil : PA X [] tNil := fun _ _ _ _ H Q I h => Calls.spliced_nil ⟨[], H, I, .nil, h⟩
theorem pa_cons (ha : PE X e te) (hr : PA X es t) (hs : starEach (e :: es) X.env = (false, eval e X.env) :: starEach es X.env := by rfl) : PA X (e :: es) (tCons te t) := by
  intro pos pins s σ H Q I h
  rw [hs]
  show wpAny _ _ (spliced ((false, eval e X.env) :: backTo pos (starEach es X.env))) _ _ s
  refine Calls.spliced_cons (thn (ha pins s σ H _ I h) fun u s1 ⟨x, H1, I1, r1, q1⟩ => ?_)
  exact thn (hr pos pins s1 σ H1 _ I1 q1) fun us s2 ⟨xs, H2, I2, r2, q2⟩ => ⟨x :: xs, H2, I2, .cons r1 r2, q2⟩

/-- a tuple, a list of written items -/
def tTup (t : TA) : TE := fun σ H Q => t σ H fun xs H1 => xs.length ≤ sizeLine ∧ ∀ p, H1 p = none → Q (.ref p) (upd H1 p (.tup xs))
def tLst (t : TA) : TE := fun σ H Q => t σ H fun xs H1 => xs.length ≤ sizeLine ∧ ∀ p, H1 p = none → Q (.ref p) (upd H1 p (.lst xs))
theorem pe_tup {x1} (h : PA X es t) : PE X (.Tuple es x1 pos) (tTup t) := by
  intro pins s σ H Q I hq
  refine wpAny_Tuple_spliced (thn (h pos pins s σ H _ I hq) fun us s1 ⟨xs, H1, I1, r, z, q⟩ => ⟨by rw [← r.length]; exact z, ?_⟩)
  have hf : H1 s1.heap.objs.size = none := I1.hok.fresh (Nat.le_refl _)
  refine ⟨.ref s1.heap.objs.size, upd H1 s1.heap.objs.size (.tup xs), I1.laid (t' := s1.toks) (fun b u e => Heap.get?_push_of_some _ e) (Nat.le_refl _) ?_, rfl, q _ hf⟩
  exact ⟨z, us, r, ⟨_, Heap.get?_push_size _ rfl, rfl, _, rfl⟩⟩
theorem pe_lst (h : PA X es t) : PE X (.List es pos) (tLst t) := by
  intro pins s σ H Q I hq
  refine wpAny_List_spliced (thn (h pos pins s σ H _ I hq) fun us s1 ⟨xs, H1, I1, r, z, q⟩ => ⟨by rw [← r.length]; exact z, ?_⟩)
  have hf : H1 s1.heap.objs.size = none := I1.hok.fresh (Nat.le_refl _)
  refine ⟨.ref s1.heap.objs.size, upd H1 s1.heap.objs.size (.lst xs), I1.laid (t' := s1.toks) (fun b u e => Heap.get?_push_of_some _ e) (Nat.le_refl _) ?_, rfl, q _ hf⟩
  exact ⟨z, us, 0, r, Heap.get?_push_size _ rfl⟩
end

/-! ### what a def promises -/
/-- a def's promise: the bound arguments in the parameters' order, the heap, the wanted end, the wanted exception -/
abbrev Sp := List V → Hp → VK → XK → Prop
/-- how an exception lies behind a call (file 08 gives it): the callers' frames, abstract heap and state ahead of the call, the wish, the exception, the state -/
abbrev CXT := List Env → Hp → Shared → XK → Value → Shared → Prop

/-- the state at a call -/
structure Env0 (P : Program) (w : World) (K : PySem.W.Frag) (mg : Str → Option Value) (base : Heap) (A : Around) (outer : List Env) (s : Shared) (H : Hp) : Prop where
  frames : A.frames = some outer
  mod : Mod K mg base
  bs : ∀ b o, base.get? b = some o → s.heap.get? b = some o ∧ H b = none
  bsz : base.objs.size ≤ s.heap.objs.size
  funs : s.heap.FunFrames base outer
  frf : ∀ b ∈ frs outer, H b = none
  hok : HOk P w H s.heap
  bare : AllBare s.gens
/-- a call's end -/
def CE (outer : List Env) (P : Program) (w : World) (H : Hp) (s : Shared) (Q : VK) (u : Value) (s' : Shared) : Prop :=
  ∃ v H', s'.os = s.os ∧ AllBare s'.gens ∧ Un (frs outer) [] H H' s.heap s'.heap ∧ HOk P w H' s'.heap ∧ RelV v u ∧ Q v H'
def CR (CX : CXT) (outer : List Env) (P : Program) (w : World) (H : Hp) (s : Shared) (Q : VK) (E : XK) (r : Result) (s' : Shared) : Prop :=
  match r with
  | .ok (.ret u) => CE outer P w H s Q u s'
  | .ok _ => False
  | .error e => CX outer H s E e s'
structure FnOk (P : Program) (w : World) (K : PySem.W.Frag) (mg : Str → Option Value) (base : Heap) (CX : CXT) (k : Nat) (f : Addr) (fd : FuncData) (ps : List Str) (sp : Sp) : Prop where
  len : ∀ vs H Q E, sp vs H Q E → vs.length = ps.length
  run : ∀ (A : Around) (outer : List Env) (s : Shared) (H : Hp) (args : Args) (us : List Value) (vs : List V) (Q : VK) (E : XK), Room k A → Env0 P w K mg base A outer s H → BindsTo s fd args (ps.zip us) → Vals vs us → sp vs H Q E →
    codeAny (model P w) A (.call (.ref f) args) (CR CX outer P w H s Q E) s
theorem FnOk.mono {P : Program} {w : World} {K : PySem.W.Frag} {mg : Str → Option Value} {base : Heap} {CX : CXT} {j k : Nat} {f : Addr} {fd : FuncData} {ps : List Str} {sp : Sp} (F : FnOk P w K mg base CX j f fd ps sp) (h : j ≤ k) :
    FnOk P w K mg base CX k f fd ps sp := ⟨F.len, fun A outer s H args us vs Q E hr => F.run A outer s H args us vs Q E (hr.mono h)⟩

theorem Env0.in1 {P : Program} {w : World} {K : PySem.W.Frag} {mg : Str → Option Value} {base : Heap} {A : Around} {outer : List Env} {s : Shared} {H : Hp} (e : Env0 P w K mg base A outer s H) :
    Env0 P w K mg base A.in1 outer s H := ⟨e.frames, e.mod, e.bs, e.bsz, e.funs, e.frf, e.hok, e.bare⟩

section
variable {X : Cx} {pins : List (Addr × Obj)} {σ : St} {H : Hp} {s s' : Shared}
/-- from a body: what a callee wants -/
theorem Inv.env0 (I : Inv X pins σ H s) : Env0 X.prog X.w X.K X.mg X.base X.A X.stack s H :=
  ⟨I.ok.frames, I.ok.mod, I.bs, Nat.le_trans I.ok.bsz I.sz, I.stack, I.stkFree, I.hok, I.bare⟩
/-- behind a call -/
theorem Inv.after {Q : VK} {u : Value} (I : Inv X pins σ H s) (h : CE X.stack X.prog X.w H s Q u s') : EP X pins σ Q u s' := by
  obtain ⟨v, H', os, bare, un, hok, r, q⟩ := h
  obtain ⟨hh, g, d, t, os'⟩ := s'
  obtain rfl : os' = s.os := os
  exact ⟨v, H', I.call (h' := hh) (g' := g) (d' := d) (t' := t) (ch := []) un hok bare (fun b z => absurd z (by simp)), r, q⟩
end

/-! ### calls -/
/-- f(..): the written arguments, then the defaults dvs; E: what is wanted of an exception -/
def tCall (sp : Sp) (dvs : List V) (E : XK) (t : TA) : TE := fun σ H Q => t σ H fun vs H1 => sp (vs ++ dvs) H1 Q E
/-- o.m(..) of an instance of the class at C -/
def tMeth (C : Addr) (m : Str) (sp : Sp) (dvs : List V) (E : XK) (ta : TE) (t : TA) : TE := fun σ H Q => ta σ H fun x H1 => ∃ a dx fs, x = .ref a ∧ H1 a = some (.ins C dx fs) ∧ fs.lookup m = none ∧
  t σ H1 fun vs H2 => sp (x :: (vs ++ dvs)) H2 Q E
/-- C(..): a new instance and its dict, then __init__ -/
def tMake (C : Addr) (sp : Sp) (dvs : List V) (E : XK) (t : TA) : TE := fun σ H Q => t σ H fun vs H1 => ∀ x dx, H1 x = none → H1 dx = none → dx ≠ x →
  sp (.ref x :: (vs ++ dvs)) (upd (upd H1 dx (.own x)) x (.ins C dx [])) (fun v H2 => v = .non ∧ Q (.ref x) H2) E

/-- how the parameters are bound: us the positional arguments, kw the keywords' values by name, ds the defaults that fill up -/
def Binds (K : PySem.W.Frag) (fd : FuncData) (ps : List Str) (ds : List Value) : Prop :=
  ∀ (s : Shared) (us : List Value), K.In s.heap → (us ++ ds).length = ps.length → BindsTo s fd ⟨us, []⟩ (ps.zip (us ++ ds))
/-- every parameter is given -/
theorem Binds.all {K : PySem.W.Frag} {fd : FuncData} {ps : List Str} (h : ∀ us : List Value, us.length = ps.length → bindArgs fd ⟨us, []⟩ = pure (ps.zip us)) : Binds K fd ps [] := fun s us _ hl => by
  rw [List.append_nil] at hl ⊢
  exact .of_eq (h us hl)

/-- an exception of a callee reaches what this body wants of exceptions -/
def Passes (CX : CXT) (X : Cx) (E : XK) : Prop := ∀ (pins : List (Addr × Obj)) (σ : St) (H : Hp) (s : Shared) (e : Value) (s' : Shared), Inv X pins σ H s → CX X.stack H s E e s' → X.xe e s'

section
variable {X : Cx} {CX : CXT} {k : Nat} {f C : Addr} {fd : FuncData} {ps : List Str} {sp : Sp} {dvs : List V} {ds : List Value} {E : XK} {x m : Str} {p pos apos : Pos} {e o : Expr} {es : List Expr} {ta : TE} {t : TA}

/-- the callee runs -/
theorem run_fn {pins : List (Addr × Obj)} {σ : St} {H : Hp} {s : Shared} {Q : VK} {us : List Value} {vs : List V} (F : FnOk X.prog X.w X.K X.mg X.base CX k f fd ps sp) (hr : Room k X.A) (hb : Binds X.K fd ps ds) (hd : Vals dvs ds) (hx : Passes CX X E)
    (I : Inv X pins σ H s) (r : Vals vs us) (h : sp (vs ++ dvs) H Q E) : wpAny (model X.prog X.w) X.A (call (.ref f) us) (EP X pins σ Q) X.xe s := by
  have r2 : Vals (vs ++ dvs) (us ++ ds) := r.append hd
  have hl : (us ++ ds).length = ps.length := by rw [← r2.length]; exact F.len _ _ _ _ h
  refine wpAny_call (codeAny_mono (F.run X.A X.stack s H ⟨us, []⟩ (us ++ ds) (vs ++ dvs) Q E hr I.env0 (hb s us I.kIn hl) r2 h) fun r s' hq => ?_)
  cases r with
  | error e => exact hx pins σ H s e s' I hq
  | ok fl =>
    cases fl with
    | ret u => exact I.after hq
    | next => exact False.elim hq
    | brk => exact False.elim hq
    | cont => exact False.elim hq

theorem pe_call (F : FnOk X.prog X.w X.K X.mg X.base CX k f fd ps sp) (hr : Room k X.A) (hg : Gl X x) (hm : X.mg x = some (.ref f)) (hk : PySem.W.keepIn X.K (.ref f) = true) (hb : Binds X.K fd ps ds) (hd : Vals dvs ds) (hx : Passes CX X E)
    (ha : PA X (e :: es) t) (hdb : (x == ("__debug__" : Str)) = false := by decide) (he : starEach (e :: es) X.env = (false, eval e X.env) :: starEach es X.env := by rfl) (hpl : (backTo pos (starEach es X.env)).any (·.1) = false := by rfl) :
    PE X (.Call (.Name x p) (e :: es) [] pos) (tCall sp dvs E t) := by
  intro pins s σ H Q I h
  refine wpAny_Call_Name_kw (ld_glob I hg hm ?_ hdb)
  refine PySem.W.callWith_K (h₀ := X.base) I.ok.mod.kin hk (thn (ha pos pins s σ H _ I h) fun us s1 ⟨vs, H1, I1, r, q⟩ => ⟨I1.kIn, ?_⟩) he hpl
  exact run_fn F hr hb hd hx I1 r q


/-- what a class must have to be made -/
structure Mk (K : PySem.W.Frag) (C f : Addr) : Prop where
  makes : PySem.W.makesIn K C = true
  init : PySem.W.findIn K (.ref C) "__init__" = some (some (.ref f))
  fn : PySem.W.isFn K (.ref f) = true
  kp : PySem.W.keepIn K (.ref C) = true

end

/-! ### keywords -/
/-- the values of the keywords, from the left -/
def PK (X : Cx) (kws : List Keyword) (t : TA) : Prop :=
  ∀ (pos : Pos) (pins : List (Addr × Obj)) (s : Shared) (σ : St) (H : Hp) (Q : List V → Hp → Prop), Inv X pins σ H s → t σ H Q → wpAny (model X.prog X.w) X.A (evalAll ((backToKw pos (keywordEach kws X.env)).map (·.2))) (AP X pins σ Q) X.xe s
section
variable {X : Cx} {CX : CXT} {k : Nat} {f C : Addr} {fd : FuncData} {ps ks : List Str} {sp : Sp} {E : XK} {x m : Str} {p pos apos kpos : Pos} {e o : Expr} {es : List Expr} {kws : List Keyword} {te ta : TE} {t tk : TA} {nm : Option Str}

/-- how a call with keywords binds: g puts the positional values us and the keywords' values ws (names ks) in the parameters' order, defaults among them -/
structure KBinds (K : PySem.W.Frag) (fd : FuncData) (ps ks : List Str) (g : List Value → List Value → List Value) (gV : List V → List V → List V) : Prop where
  to : ∀ (s : Shared) (us ws : List Value), K.In s.heap → (g us ws).length = ps.length → BindsTo s fd ⟨us, ks.zip ws⟩ (ps.zip (g us ws))
  rel : ∀ {vs : List V} {us : List Value} {zs : List V} {ws : List Value}, Vals vs us → Vals zs ws → Vals (gV vs zs) (g us ws)
def tCallK (sp : Sp) (gV : List V → List V → List V) (E : XK) (t tk : TA) : TE := fun σ H Q => t σ H fun vs H1 => tk σ H1 fun zs H2 => sp (gV vs zs) H2 Q E
variable {g : List Value → List Value → List Value} {gV : List V → List V → List V}
end

/-! ### a def's body keeps its promise -/
/-- names: the parameters first -/
structure FnScope (N P : List Str) (sc : Scope) : Prop where
  kind : sc.kind = .function
  co : sc.isCoroutine = false
  gen : sc.isGenerator = false
  nd : N.Nodup
  pre : N.take P.length = P
  par : ∀ x ∈ P, sc.names.lookup x = some .local ∨ sc.names.lookup x = some .cell
  nofree : ∀ y ∈ sc.names, y.2 ≠ .free

theorem bindL_out {kindOf : Str → Option NameKind} {x : Str} : ∀ {binds : List (Str × Value)} {m : Str → Option Value}, (∀ v, (x, v) ∉ binds) → bindL kindOf binds m x = m x
  | [], _, _ => rfl
  | (n, v) :: r, m, h => by
    unfold bindL
    rw [bindL_out fun w hw => h w (List.mem_cons_of_mem _ hw)]
    split
    · have : x ≠ n := by rintro rfl; exact h v List.mem_cons_self
      simp [this]
    · rfl
theorem bindC_out {kindOf : Str → Option NameKind} {x : Str} : ∀ {binds : List (Str × Value)} {m : Str → Option Value}, (∀ v, (x, v) ∉ binds) → bindC kindOf binds m x = m x
  | [], _, _ => rfl
  | (n, v) :: r, m, h => by
    unfold bindC
    rw [bindC_out fun w hw => h w (List.mem_cons_of_mem _ hw)]
    split
    · rfl
    · have : x ≠ n := by rintro rfl; exact h v List.mem_cons_self
      simp [this]
theorem bindL_get {kindOf : Str → Option NameKind} {x : Str} {v : Value} : ∀ {P : List Str} {vs : List Value} {i : Nat} {m : Str → Option Value}, P.Nodup → P[i]? = some x → vs[i]? = some v → kindOf x = some .local →
    bindL kindOf (P.zip vs) m x = some v
  | [], _, _, _, _, h, _, _ => by simp at h
  | _ :: _, [], _, _, _, _, h, _ => by simp at h
  | p :: P, w :: vs, 0, m, nd, h1, h2, hk => by
    simp at h1 h2; subst h1; subst h2
    show bindL kindOf ((p, w) :: P.zip vs) m p = _
    unfold bindL
    rw [bindL_out fun v hv => (List.nodup_cons.mp nd).1 (List.of_mem_zip hv).1, if_pos hk]
    simp
  | p :: P, w :: vs, i + 1, m, nd, h1, h2, hk => by
    show bindL kindOf ((p, w) :: P.zip vs) m x = _
    unfold bindL
    exact bindL_get (i := i) (List.nodup_cons.mp nd).2 (by simpa using h1) (by simpa using h2) hk
theorem bindC_get {kindOf : Str → Option NameKind} {x : Str} {v : Value} : ∀ {P : List Str} {vs : List Value} {i : Nat} {m : Str → Option Value}, P.Nodup → P[i]? = some x → vs[i]? = some v → kindOf x ≠ some .local →
    bindC kindOf (P.zip vs) m x = some v
  | [], _, _, _, _, h, _, _ => by simp at h
  | _ :: _, [], _, _, _, _, h, _ => by simp at h
  | p :: P, w :: vs, 0, m, nd, h1, h2, hk => by
    simp at h1 h2; subst h1; subst h2
    show bindC kindOf ((p, w) :: P.zip vs) m p = _
    unfold bindC
    rw [bindC_out fun v hv => (List.nodup_cons.mp nd).1 (List.of_mem_zip hv).1, if_neg hk]
    simp
  | p :: P, w :: vs, i + 1, m, nd, h1, h2, hk => by
    show bindC kindOf ((p, w) :: P.zip vs) m x = _
    unfold bindC
    exact bindC_get (i := i) (List.nodup_cons.mp nd).2 (by simpa using h1) (by simpa using h2) hk

/-- the names' values at the entry -/
def start (N : List Str) (vs : List V) : St := vs.map some ++ List.replicate (N.length - vs.length) none

/-- the context of a def's body, at its entry; an exception leaves the frame, then lies as CX says -/
def cxOf (CX : CXT) (P : Program) (w : World) (K : PySem.W.Frag) (mg : Str → Option Value) (base : Heap) (N : List Str) (qual : Str) (scope : Scope) (f : Addr) (cd : Value) (A : Around) (outer : List Env) (s : Shared) (H : Hp) (E : XK) : Cx where
  prog := P
  w := w
  K := K
  mg := mg
  base := base
  A := A.deeper (envOfC qual scope s.heap.objs.size f cd)
  N := N
  s₀ := s
  H₀ := H
  env := envOfC qual scope s.heap.objs.size f cd
  outer := outer
  stack := envOfC qual scope s.heap.objs.size f cd :: outer
  ex := []
  calm := true
  fn := fun _ => true
  pn := []
  xe := fun e s' => wpAny (model P w) (A.deeper (envOfC qual scope s.heap.objs.size f cd)) (leaving (envOfC qual scope s.heap.objs.size f cd) e) (fun _ s'' => CX outer H s E e s'') (fun e' s'' => CX outer H s E e' s'') s'

theorem cell_has {sc : Scope} {n : Nat} {x : Str} (h : sc.names.lookup x = some .cell) : ∃ c, (cellsFrom n sc.names []).lookup x = some c := by
  have q := PySem.W.cellsFrom_some sc.names n [] (.inl h)
  exact Option.isSome_iff_exists.mp q

theorem inv_start {CX : CXT} {P : Program} {w : World} {K : PySem.W.Frag} {mg : Str → Option Value} {base : Heap} {N ps : List Str} {qual : Str} {scope : Scope} {f : Addr} {cd : Value} {A : Around} {outer : List Env} {s s1 : Shared} {H : Hp} {E : XK} {us : List Value} {vs : List V}
    (S : FnScope N ps scope) (hd : A.handled = none) (e0 : Env0 P w K mg base A outer s H) (hl : vs.length = ps.length) (r : Vals vs us)
    (x : InCallC s s.heap.objs.size (bindL (envOfC qual scope s.heap.objs.size f cd).kindOf (ps.zip us) fun _ => none) (cellsFrom (s.heap.objs.size + 1) scope.names []) (bindC (envOfC qual scope s.heap.objs.size f cd).kindOf (ps.zip us) fun _ => none) s1) :
    Inv (cxOf CX P w K mg base N qual scope f cd A outer s H E) [] (start N vs) H s1 := by
  have hpl : ps.length ≤ N.length := by have := congrArg List.length S.pre; rw [List.length_take] at this; omega
  obtain ⟨h1, tk, rfl, hk⟩ := x.done
  have noA : ∀ b : Addr, b ∉ (cxOf CX P w K mg base N qual scope f cd A outer s H E).ex := fun b z => absurd (show b ∈ ([] : List Addr) from z) (by simp)
  refine ⟨⟨e0.mod, S.kind, rfl, rfl, Nat.le_refl _, fun y z c h1 h2 => ?_, fun y hy => ?_, fun y c _ h => ?_, fun _ => hd, Around.frames_deeper e0.frames, .inr ⟨rfl, rfl⟩, fun b z => absurd z (noA b), e0.bs, e0.bsz, fun b _ _ => noA b, fun b z => absurd z (noA b), e0.funs, e0.frf⟩,
    rfl, e0.bare, Un.kept hk, ⟨_, x.toInCall.ns, fun i y v h1 h2 h3 => ?_⟩, fun y c h => ⟨_, x.cell y c h⟩, e0.hok.fresh (Nat.le_refl _), fun y c h => ?_, fun p hp => absurd (show p ∈ ([] : List (Addr × Obj)) from hp) (by simp), e0.hok.kept hk, ?_⟩
  · exact name_of_addr x.apart (PySem.mem_of_lookup h1) (PySem.mem_of_lookup h2)
  · have hy : scope.names.lookup y = some .cell ∨ scope.names.lookup y = some .free := hy
    rcases hy with hy | hy
    · exact cell_has hy
    · exact absurd rfl (S.nofree _ (PySem.mem_of_lookup hy))
  · exact Nat.le_of_lt (x.above y c (PySem.mem_of_lookup h))
  · have hi : i < vs.length := by
      unfold start at h2
      by_cases hi : i < vs.length
      · exact hi
      · rw [List.getElem?_append_right (by simpa using hi)] at h2
        rw [List.getElem?_replicate] at h2
        split at h2 <;> cases h2
    have ha : vs[i]? = some v := by
      unfold start at h2
      rw [List.getElem?_append_left (by simpa using hi), List.getElem?_map] at h2
      cases e : vs[i]? with
      | none => rw [e] at h2; cases h2
      | some a => rw [e] at h2; cases h2; rfl
    obtain ⟨u, hu, rv⟩ := r.get ha
    have hp : ps[i]? = some y := by
      rw [← S.pre, List.getElem?_take_of_lt (by omega)]; exact h1
    have ndP : ps.Nodup := by rw [← S.pre]; exact S.nd.sublist (List.take_sublist _ _)
    refine ⟨u, rv, ?_⟩
    rcases S.par y (List.mem_of_getElem? hp) with k | k
    · exact .inl ⟨k, bindL_get ndP hp hu k⟩
    · obtain ⟨c, e⟩ := cell_has (n := s.heap.objs.size + 1) k
      refine .inr ⟨.inl k, c, e, ?_⟩
      have q := x.cell y c e
      rw [bindC_get ndP hp hu (by show scope.names.lookup y ≠ _; rw [k]; decide)] at q
      exact q
  · exact e0.hok.fresh (Nat.le_of_lt (x.above y c (PySem.mem_of_lookup h)))
  · unfold start
    show _ = N.length
    rw [List.length_append, List.length_map, List.length_replicate]
    omega

/-- THE RULE: a def (or a method) of the text, by its body. The body's reading t is chosen for each entry; it is run at the parameters' values -/
theorem fn_of {CX : CXT} {P : Program} {w : World} {K : PySem.W.Frag} {mg : Str → Option Value} {base : Heap} {k : Nat} {f : Addr} {name qual : Str} {params : Arguments} {body : List Stmt} {scope : Scope} {dV kV doc pm cdv ct oc : Value} {an od : Option Addr}
    {osl : Array (Option Value)} {N ps : List Str} {sp : Sp} (lk : K.lookup f = some ⟨oc, od, .func (PySem.W.fnOf name qual params body scope dV kV doc pm an cdv ct), osl⟩) (hcd : PySem.W.codeIn K cdv qual = true) (S : FnScope N ps scope)
    (len : ∀ vs H Q E, sp vs H Q E → vs.length = ps.length)
    (hbody : ∀ (A : Around) (outer : List Env) (s : Shared) (H : Hp) (vs : List V) (Q : VK) (E : XK), Room k (A.deeper (envOfC qual scope s.heap.objs.size f cdv)) → sp vs H Q E →
      ∃ t, PSs (cxOf CX P w K mg base N qual scope f cdv A outer s H E) body t ∧ t { nx := fun _ H' => Q .non H', rt := Q } (start N vs) H) :
    FnOk P w K mg base CX (k + 1) f (PySem.W.fnOf name qual params body scope dV kV doc pm an cdv ct) ps sp := by
  refine ⟨len, fun A outer s H args us vs Q E hr e0 hb r hsp => ?_⟩
  have hl := len _ _ _ _ hsp
  have KX : K.In s.heap := e0.mod.kin.keeps fun b o e => (e0.bs b o e).1
  have lim : s.heap.NoLimit := e0.mod.nolimit.keeps fun b o e => (e0.bs b o e).1
  have hkind : ∀ y ∈ ps.zip us, scope.names.lookup y.1 = some .local ∨ (scope.names.lookup y.1 = some .cell ∧ ((cellsFrom (s.heap.objs.size + 1) scope.names []).lookup y.1).isSome = true) := fun ⟨n, v⟩ hy => by
    rcases S.par n (List.of_mem_zip hy).1 with q | q
    · exact .inl q
    · exact .inr ⟨q, PySem.W.cellsFrom_some _ _ _ (.inl q)⟩
  refine codeAny_call_function hr.depth (KX _ _ lk) rfl S.co S.gen rfl (PySem.W.codeRec_of KX hcd) (hb _ _ _ _ ?_)
  refine wpAny_newFunctionEnv_cells S.kind hkind fun env he s1 x => ?_
  subst he
  refine ⟨lim.keeps x.toInCall.keep, codeAny_func ?_⟩
  obtain ⟨t, ht, hq⟩ := hbody A outer s H vs Q E (hr.deeper _) hsp
  have I : Inv (cxOf CX P w K mg base N qual scope f cdv A outer s H E) [] (start N vs) H s1 := inv_start S hr.hd e0 hl r x
  refine wpAny_mono (ht [] s1 (start N vs) H _ I hq) (fun fl s' hs => ?_) fun e s' hs => hs
  have fin : ∀ {σ' : St} {H' : Hp} {v : V} {u : Value}, Inv (cxOf CX P w K mg base N qual scope f cdv A outer s H E) [] σ' H' s' → RelV v u → Q v H' → CE outer P w H s Q u s' :=
    fun {σ' H' v u} J rv q => ⟨v, H', J.os, J.bare, J.base, J.hok, rv, q⟩
  cases fl with
  | ret u =>
    obtain ⟨v, σ', H', J, rv, q⟩ := hs
    exact fin J rv q
  | next =>
    obtain ⟨σ', H', J, q⟩ := hs
    exact fin (v := V.non) (u := Value.none) J rfl q
  | brk =>
    obtain ⟨_, _, _, q⟩ := hs
    exact False.elim q
  | cont =>
    obtain ⟨_, _, _, q⟩ := hs
    exact False.elim q
end L2

namespace L2
open PySem PySem.Spec PyProof.Rows
section
variable {X : Cx} {x : Str} {p pos : Pos} {e : Expr} {es : List Expr} {t : TA} {id T : String} {r : List V → Hp → VK → Prop}

def tCB (r : List V → Hp → VK → Prop) (t : TA) : TE := fun σ H Q => t σ H fun vs H1 => r vs H1 Q
/-- f(e, ..), f a built-in function -/
theorem pe_callB (hc : CallR X (.builtin id) r) (hg : Gl X x) (hm : X.mg x = none) (hv : bootBuiltins x = some (.builtin id)) (ha : PA X (e :: es) t) (hn : x ≠ "__name__" := by decide) (hdb : (x == ("__debug__" : Str)) = false := by decide)
    (he : starEach (e :: es) X.env = (false, eval e X.env) :: starEach es X.env := by rfl) (hpl : (backTo pos (starEach es X.env)).any (·.1) = false := by rfl) : PE X (.Call (.Name x p) (e :: es) [] pos) (tCB r t) := by
  intro pins s σ H Q I h
  refine wpAny_Call_Name_kw (ld_blt I hg hm hv ?_ hn hdb)
  exact PyProof.Rows.callWith_builtin1 (thn (ha pos pins s σ H _ I h) fun us s1 ⟨vs, H1, I1, r1, q1⟩ => hc pins s1 σ H1 vs us Q I1 r1 q1) he hpl
/-- T(e, ..), T a built-in type -/
theorem pe_callTy (hc : CallR X (.type T) r) (hg : Gl X x) (hm : X.mg x = none) (hv : bootBuiltins x = some (.type T)) (ha : PA X (e :: es) t) (hn : x ≠ "__name__" := by decide) (hdb : (x == ("__debug__" : Str)) = false := by decide)
    (he : starEach (e :: es) X.env = (false, eval e X.env) :: starEach es X.env := by rfl) (hpl : (backTo pos (starEach es X.env)).any (·.1) = false := by rfl) : PE X (.Call (.Name x p) (e :: es) [] pos) (tCB r t) := by
  intro pins s σ H Q I h
  refine wpAny_Call_Name_kw (ld_blt I hg hm hv ?_ hn hdb)
  exact PyProof.Rows.callWith_type1 (thn (ha pos pins s σ H _ I h) fun us s1 ⟨vs, H1, I1, r1, q1⟩ => hc pins s1 σ H1 vs us Q I1 r1 q1) he hpl
end
end L2

namespace HT
open PySem PyProof.Rows

/-- t < u of tuples of ints -/
def lexLt : List Int → List Int → Bool
  | [], [] => false
  | [], _ :: _ => true
  | _ :: _, [] => false
  | x :: xs, y :: ys => if x = y then lexLt xs ys else decide (x < y)
theorem lexLt_cons (x y : Int) (xs ys : List Int) : lexLt (x :: xs) (y :: ys) = if x = y then lexLt xs ys else decide (x < y) := rfl


section
open PySem.SeqAt
open PySem.AutoSeq1 (wpAny_loadPart')
open PySem.MeetsSeq PySem.MeetsSeq2 PySem.MeetsSeq3

end

section
variable {prog : Program} {w : World} {A : Around} {E : Value → Shared → Prop} {s : Shared}


/-- t + u, t not empty -/
theorem cat_tup {t b : Addr} {vs ws : List Value} {Q : Value → Shared → Prop} (ht : IsTup s.heap t vs.toArray) (hb : IsTup s.heap b ws.toArray) (hv : vs ≠ [])
    (h1 : ws = [] → Q (.ref t) s) (h2 : ws ≠ [] → Q (.ref s.heap.objs.size) { s with heap := s.heap.push { cls := .type "tuple", data := .seq (vs ++ ws).toArray } })
    (hsz : vs.length + ws.length ≤ sizeLine) : wpAny (model prog w) A (binaryOp .Add (.ref t) (.ref b)) Q E s := by
  obtain ⟨⟨cls, dd, data, sl⟩, ho, hc, n, hd⟩ := id ht
  obtain ⟨⟨cls2, dd2, data2, sl2⟩, ho2, hc2, n2, hd2⟩ := id hb
  simp only at hc hd hc2 hd2
  subst hc hd hc2 hd2
  have e : vs.toArray ++ ws.toArray = (vs ++ ws).toArray := by simp
  by_cases hw : ws = []
  · exact concat_meets ⟨_, ho, rfl⟩ ⟨_, ho2, rfl⟩ noFill_tuple_add seq_tuple_add PySem.F.slot_tuple_add PySem.F.entry_tuple_add (PySem.F.args_tuple_add_2 _ _)
      (tuple_addW1 t b vs.toArray ws.toArray n n2 dd dd2 sl sl2 (by simpa using hv) (by simp [hw])) ⟨ho, ho2, h1 hw⟩
  · refine concat_meets ⟨_, ho, rfl⟩ ⟨_, ho2, rfl⟩ noFill_tuple_add seq_tuple_add PySem.F.slot_tuple_add PySem.F.entry_tuple_add (PySem.F.args_tuple_add_2 _ _)
      (tuple_addW2 t b vs.toArray ws.toArray n n2 dd dd2 sl sl2 (by simpa using hv) (by simpa using hw) (by rw [List.size_toArray, List.size_toArray]; exact hsz)) ⟨ho, ho2, ?_⟩
    rw [e]
    exact h2 hw

/-! ### t[a:b], not the whole -/
/-- a slice's bound as a place among n (d where it is left out) -/
def sIx (n d : Nat) : Option Int → Nat
  | none => d
  | some v => if v < 0 then (v + (n : Int)).toNat else min v.toNat n
theorem sIx_none (n d : Nat) : sIx n d none = d := rfl
theorem sIx_nat (n d k : Nat) : sIx n d (some (k : Int)) = min k n := by
  show (if (k : Int) < 0 then ((k : Int) + (n : Int)).toNat else min (k : Int).toNat n) = min k n
  rw [if_neg (by omega), Int.toNat_natCast]
theorem sIx_le (n d : Nat) (hd : d ≤ n) (o : Option Int) : sIx n d o ≤ n := by
  cases o with
  | none => exact hd
  | some v =>
    show (if v < 0 then (v + (n : Int)).toNat else min v.toNat n) ≤ n
    by_cases hv : v < 0
    · rw [if_pos hv]; omega
    · rw [if_neg hv]; exact Nat.min_le_right _ _
theorem clip_eq (v : Int) (n d : Nat) : (if v < 0 then max (v + (n : Int)) 0 else min v (n : Int)) = ((sIx n d (some v) : Nat) : Int) := by
  show (if v < 0 then max (v + (n : Int)) 0 else min v (n : Int)) = (((if v < 0 then (v + (n : Int)).toNat else min v.toNat n) : Nat) : Int)
  by_cases hv : v < 0
  · simp only [if_pos hv]; omega
  · simp only [if_neg hv]; omega
theorem adjust_gen (lo hi : Option Int) (n : Nat) : Builtin.Slice.sliceAdjust lo hi 1 (n : Int) = (((sIx n 0 lo : Nat) : Int), ((sIx n n hi : Nat) : Int)) := by
  have h1 : ¬ ((1 : Int) < 0) := by omega
  unfold Builtin.Slice.sliceAdjust
  simp only [h1, if_false]
  refine Prod.ext ?_ ?_
  · cases lo with
    | none => rfl
    | some v => exact clip_eq v n 0
  · cases hi with
    | none => rfl
    | some v => exact clip_eq v n n
theorem places_gen (i j : Nat) : Builtin.Slice.slicePlaces (i : Int) (j : Int) 1 = j - i := by
  unfold Builtin.Slice.slicePlaces
  have h1 : (1 : Int) > 0 := by omega
  simp only [h1, if_true, Int.ediv_one]
  split <;> omega
theorem slicePart_ {v : Value} {o : Option Int} {Q : Option Int → Shared → Prop} (p : IsPart v o) (h : Q o s) : wpAny (model prog w) A (Builtin.Slice.slicePartIndex v) Q E s := by
  cases p with
  | none => exact slicePart_none h
  | int i t => exact slicePart_int h
theorem sliceApplied_gen {sl : Addr} {vl vu : Value} {lo hi : Option Int} {n : Nat} {Q : Int × Int × Nat → Shared → Prop} (hs : s.heap.IsSliceOf sl vl vu .none) (pl : IsPart vl lo) (pu : IsPart vu hi)
    (h : Q (((sIx n 0 lo : Nat) : Int), 1, sIx n n hi - sIx n 0 lo) s) : wpAny (model prog w) A (Builtin.Slice.sliceApplied (.ref sl) (pure (n : Int))) Q E s := by
  obtain ⟨os, hos, hcs, hds⟩ := id hs
  unfold Builtin.Slice.sliceApplied Builtin.Slice.sliceFields
  refine wpAny_bind (wpAny_bind (wpAny_field hos hds (x := vl) rfl (wpAny_bind (wpAny_field hos hds (x := vu) rfl (wpAny_bind (wpAny_field hos hds (x := .none) rfl (wpAny_pure ?_)))))))
  refine wpAny_bind (slicePart_none ?_)
  show wpAny _ _ (if ((1 : Int) == 0) = true then _ else _) _ _ s
  rw [if_neg (by decide)]
  refine wpAny_bind (slicePart_ pl (wpAny_bind (slicePart_ pu (wpAny_bind (wpAny_pure ?_)))))
  show wpAny _ _ (match Builtin.Slice.sliceAdjust lo hi 1 (n : Int) with | (lo, hi) => pure (lo, (1 : Int), Builtin.Slice.slicePlaces lo hi 1)) _ _ s
  rw [adjust_gen lo hi n]
  show wpAny _ _ (pure (((sIx n 0 lo : Nat) : Int), (1 : Int), Builtin.Slice.slicePlaces ((sIx n 0 lo : Nat) : Int) ((sIx n n hi : Nat) : Int) 1)) _ _ s
  rw [places_gen]
  exact wpAny_pure h
theorem pick_gen (xs : Array Value) (i k : Nat) : ((List.range k).filterMap fun (m : Nat) => xs[((i : Int) + (m : Int) * 1).toNat]?).toArray = ((xs.toList.drop i).take k).toArray := by
  have e : (fun (m : Nat) => xs[((i : Int) + (m : Int) * 1).toNat]?) = fun m => xs[i + m]? := by
    funext m
    have : ((i : Int) + (m : Int) * 1).toNat = i + m := by omega
    rw [this]
  rw [e]
  have := pick_run xs i k
  rw [List.filterMap_map] at this
  have e2 : ((fun x => xs[x]?) ∘ fun x => i + x) = fun m => xs[i + m]? := rfl
  rw [e2] at this
  rw [this]

theorem getItem_tuple_cut {t sl : Addr} {items : Array Value} {vl vu : Value} {lo hi : Option Int} {Q : Value → Shared → Prop} (ht : IsTup s.heap t items) (hs : s.heap.IsSliceOf sl vl vu .none) (pl : IsPart vl lo) (pu : IsPart vu hi)
    (hw : ¬ (sIx items.size 0 lo = 0 ∧ sIx items.size items.size hi = items.size))
    (h : Q (.ref s.heap.objs.size) { s with heap := s.heap.push { cls := .type "tuple", data := .seq ((items.toList.drop (sIx items.size 0 lo)).take (sIx items.size items.size hi - sIx items.size 0 lo)).toArray } })
    (hsz : items.size ≤ sizeLine) : wpAny (model prog w) A (getItem (.ref t) (.ref sl)) Q E s := by
  have htake : sizeOk (.seq ((items.toList.drop (sIx items.size 0 lo)).take (sIx items.size items.size hi - sIx items.size 0 lo)).toArray) := by
    show ((items.toList.drop (sIx items.size 0 lo)).take (sIx items.size items.size hi - sIx items.size 0 lo)).toArray.size ≤ sizeLine
    rw [List.size_toArray, List.length_take, List.length_drop, Array.length_toList]
    omega
  have hj : sIx items.size items.size hi ≤ items.size := sIx_le _ _ (Nat.le_refl _) hi
  obtain ⟨os, hos, hcs, hds⟩ := id hs
  have hTs : s.TypeIs (.ref sl) "slice" := ⟨os, hos, hcs⟩
  unfold getItem
  try with_reducible refine wpAny_holding ?_
  first | refine wpAny_bind (wpAny_pure ?_) | skip
  refine wpAny_bind (wpAny_sequenceKey ht.typeIs (by decide) ?_)
  refine wpAny_bind (wpAny_callSpecial?_slot (name := Str.ofString "__getitem__") ht.typeIs PyProof.Rows.slot_tuple_getitem
    (wpAny_call_entry PyProof.Rows.slot_tuple_getitem ht.typeIs entry_tuple_getitem ?_ (args_tuple_getitem _ _)))
  show wpAny _ _ (Builtin.Tuple.tupleItemsOf (.ref t) >>= _) _ _ s
  refine wpAny_bind (tupleItemsOf_ ht ?_)
  refine wpAny_bind (wpAny_typeOf hTs ?_)
  rw [if_pos (by decide)]
  refine wpAny_bind (sliceApplied_gen hs pl pu ?_)
  have hno : ¬ ((((sIx items.size 0 lo : Nat) : Int) == 0 && (1 : Int) == 1 && (sIx items.size items.size hi - sIx items.size 0 lo) == items.size) = true) := by
    intro q
    rw [Bool.and_eq_true, Bool.and_eq_true] at q
    have q1 : ((sIx items.size 0 lo : Nat) : Int) = 0 := eq_of_beq q.1.1
    have q2 : sIx items.size items.size hi - sIx items.size 0 lo = items.size := eq_of_beq q.2
    exact hw ⟨by omega, by omega⟩
  show wpAny _ _ (if (((sIx items.size 0 lo : Nat) : Int) == 0 && (1 : Int) == 1 && (sIx items.size items.size hi - sIx items.size 0 lo) == items.size) = true then _ else _) _ _ s
  rw [if_neg hno, pick_gen]
  first
    | exact wpAny_bind (m := Builtin.Tuple.tupleExact _) (wpAny_newObj_type (wpAny_pure ⟨_, rfl, wpAny_pure h⟩) htake)
    | exact wpAny_bind (m := Builtin.Tuple.tupleExact _) (wpAny_newObj_type (wpAny_bind (wpAny_pure (wpAny_pure ⟨_, rfl, wpAny_pure h⟩))) htake)
    | exact wpAny_bind (wpAny_bind (m := Builtin.Tuple.tupleExact _) (wpAny_newObj_type (wpAny_pure (wpAny_pure ⟨_, rfl, wpAny_pure h⟩)) htake))
    | exact wpAny_bind (wpAny_bind (m := Builtin.Tuple.tupleExact _) (wpAny_newObj_type (wpAny_pure ⟨_, rfl, wpAny_pure h⟩) htake))
end
end HT

namespace L2
open PySem PySem.Spec PyProof.Rows

/-! ### the parts of a slice -/
abbrev TO := St → Hp → (Option Int → Hp → Prop) → Prop
/-- a slice's part (left out, or an int) -/
def PO (X : Cx) (e : Option Expr) (t : TO) : Prop :=
  ∀ (pins : List (Addr × Obj)) (s : Shared) (σ : St) (H : Hp) (Q : Option Int → Hp → Prop), Inv X pins σ H s → t σ H Q →
    wpAny (model X.prog X.w) X.A (evalPart e X.env) (fun u s' => ∃ o H', Inv X pins σ H' s' ∧ IsPart u o ∧ Q o H') X.xe s
def tNoPart : TO := fun _ H Q => Q none H
def tPart (t : TE) : TO := fun σ H Q => t σ H fun x H1 => ∃ i, x = .int i ∧ Q (some i) H1


section
variable {X : Cx} {e : Expr} {te : TE} {lo hi : Option Expr} {tl th : TO} {pos p2 : Pos}

theorem po_none : PO X none tNoPart := by
  intro pins s σ H Q I h
  rw [evalPart_none]
  exact wpAny_pure ⟨none, H, I, .none, h⟩
theorem po_some (h : PE X e te) : PO X (some e) (tPart te) := by
  intro pins s σ H Q I hw
  rw [evalPart_some]
  refine thn (h pins s σ H _ I hw) fun u s1 ⟨x, H1, I1, r1, q1⟩ => ?_
  obtain ⟨i, rfl, q⟩ := q1
  obtain ⟨t, rfl⟩ := r1
  exact ⟨some i, H1, I1, .int i t, q⟩

/-- what a slice of a value is, by values: the slice object stands at sl -/
def SlR (X : Cx) (r : V → Option Int → Option Int → Hp → VK → Prop) : Prop :=
  ∀ (pins : List (Addr × Obj)) (s : Shared) (σ : St) (H : Hp) (x : V) (v vl vu : Value) (lo hi : Option Int) (sl : Addr) (Q : VK), Inv X pins σ H s → RelV x v → s.heap.IsSliceOf sl vl vu .none → IsPart vl lo → IsPart vu hi → r x lo hi H Q →
    ∃ T id, typeLookup (.type T) "__getitem__" = pure (some (.builtin id)) ∧ s.TypeIs v T ∧ wpAny (model X.prog X.w) X.A (getItem v (.ref sl)) (EP X pins σ Q) X.xe s
theorem SlR.or {r r' : V → Option Int → Option Int → Hp → VK → Prop} (h : SlR X r) (h' : SlR X r') : SlR X (fun x lo hi H Q => r x lo hi H Q ∨ r' x lo hi H Q) := by
  intro pins s σ H x v vl vu lo hi sl Q I rx hs pl pu q
  rcases q with q | q
  · exact h pins s σ H x v vl vu lo hi sl Q I rx hs pl pu q
  · exact h' pins s σ H x v vl vu lo hi sl Q I rx hs pl pu q
def tSl (r : V → Option Int → Option Int → Hp → VK → Prop) (te : TE) (tl th : TO) : TE := fun σ H Q => te σ H fun x H1 => tl σ H1 fun l H2 => th σ H2 fun u H3 => r x l u H3 Q
/-- a[lo:hi], any a -/
theorem pe_slice {r : V → Option Int → Option Int → Hp → VK → Prop} (hr : SlR X r) (he : PE X e te) (hl : PO X lo tl) (hu : PO X hi th) : PE X (.Subscript e (.Slice lo hi none p2) pos) (tSl r te tl th) := by
  intro pins s σ H Q I h
  refine Subscript_ (thn (he pins s σ H _ I h) fun v s1 ⟨x, H1, I1, r1, q1⟩ => ?_)
  refine wpAny_Slice (thn (hl pins s1 σ H1 _ I1 q1) fun vl s2 ⟨l, H2, I2, pl, q2⟩ => thn (hu pins s2 σ H2 _ I2 q2) fun vu s3 ⟨u, H3, I3, pu, q3⟩ => ?_)
  rw [evalPart_none]
  refine wpAny_pure ?_
  have I4 : Inv X pins σ H3 { s3 with heap := s3.heap.push { cls := .type "slice", data := .fields #[vl, vu, .none] } } := I3.kept (t' := s3.toks) fun b ob q => Heap.get?_push_of_some _ q
  obtain ⟨T, id, hT, ht, hg⟩ := hr pins { s3 with heap := s3.heap.push { cls := .type "slice", data := .fields #[vl, vu, .none] } } σ H3 x v vl vu l u s3.heap.objs.size Q I4 r1 (Heap.IsSliceOf.new ..) pl pu q3
  show wpAny (model X.prog X.w) X.A (subscriptTail e (.Slice lo hi none p2) v (.ref s3.heap.objs.size)) (EP X pins σ Q) X.xe { s3 with heap := s3.heap.push { cls := .type "slice", data := .fields #[vl, vu, .none] } }
  exact tail_any (ops := [.ref s3.heap.objs.size, v]) ht hT hg (by with_unfolding_all rfl)

/-- the items of xs[lo:hi] -/
def cutV (xs : List V) (lo hi : Option Int) : List V := (xs.drop (HT.sIx xs.length 0 lo)).take (HT.sIx xs.length xs.length hi - HT.sIx xs.length 0 lo)
theorem cutV_length (xs : List V) (lo hi : Option Int) : (cutV xs lo hi).length ≤ xs.length := by
  unfold cutV
  rw [List.length_take, List.length_drop]
  omega
/-- t[lo:hi], not the whole of it (the whole would be t itself) -/
def rSlT (K : PySem.W.Frag) : V → Option Int → Option Int → Hp → VK → Prop := fun x lo hi H Q => ∃ a xs, x = .ref a ∧ SqT K H a xs ∧
  ¬ (HT.sIx xs.length 0 lo = 0 ∧ HT.sIx xs.length xs.length hi = xs.length) ∧ ∀ p, H p = none → Q (.ref p) (upd H p (.tup (cutV xs lo hi)))
theorem sl_tup : SlR X (rSlT X.K) := by
  intro pins s σ H x v vl vu lo hi sl Q I rx hs pl pu h
  obtain ⟨a, xs, rfl, hx, hw, q⟩ := h
  cases rx
  obtain ⟨its, r, ht, hz⟩ := I.tuple hx
  have hlen : its.toArray.size = xs.length := by rw [List.size_toArray]; exact r.length.symm
  refine ⟨"tuple", _, PyProof.Rows.slot_tuple_getitem.lookup, ht.typeIs, ?_⟩
  refine HT.getItem_tuple_cut ht hs pl pu (by rw [hlen]; exact hw) ?_ (by rw [hlen]; exact hz)
  rw [hlen]
  refine ⟨.ref s.heap.objs.size, _, I.laid (t' := s.toks) (o := .tup (cutV xs lo hi)) (fun b ob q => Heap.get?_push_of_some _ q) (Nat.le_refl _) ?_, rfl, q _ (I.hok.fresh (Nat.le_refl _))⟩
  exact ⟨Nat.le_trans (cutV_length xs lo hi) hz, _, (r.drop (HT.sIx xs.length 0 lo)).take (HT.sIx xs.length xs.length hi - HT.sIx xs.length 0 lo), IsTup.new _ _⟩

/-! ### t < u, t + u -/
def rLtT (K : PySem.W.Frag) : R2 := fun x y H Q => ∃ a b ns ms, x = .ref a ∧ y = .ref b ∧ SqT K H a (ns.map V.int) ∧ SqT K H b (ms.map V.int) ∧ Q (.bl (HT.lexLt ns ms)) H
/-- t + u, t not empty: u empty gives t itself -/
def rCatT (K : PySem.W.Frag) : R2 := fun x y H Q => ∃ a b xs ys, x = .ref a ∧ y = .ref b ∧ SqT K H a xs ∧ SqT K H b ys ∧ xs ≠ [] ∧ xs.length + ys.length ≤ sizeLine ∧
  (ys = [] → Q (.ref a) H) ∧ (ys ≠ [] → ∀ p, H p = none → Q (.ref p) (upd H p (.tup (xs ++ ys))))
theorem Vals.nil_iff {xs : List V} {us : List Value} (r : Vals xs us) : us = [] ↔ xs = [] := by
  cases r with
  | nil => simp
  | cons _ _ => simp
theorem op_catT : OpR X (binaryOp .Add) (rCatT X.K) := by
  intro pins s σ H x y v u Q I rx ry h
  obtain ⟨a, b, xs, ys, rfl, rfl, ha, hb, hx, hz, q1, q2⟩ := h
  cases rx
  cases ry
  obtain ⟨its, r1, p1, _⟩ := I.tuple ha
  obtain ⟨its2, r2, p2, _⟩ := I.tuple hb
  refine HT.cat_tup p1 p2 (fun z => hx (r1.nil_iff.mp z)) (fun z => ⟨.ref a, H, I, rfl, q1 (r2.nil_iff.mp z)⟩) (fun z => ?_) (by rw [← r1.length, ← r2.length]; exact hz)
  refine ⟨.ref s.heap.objs.size, _, I.laid (t' := s.toks) (o := .tup (xs ++ ys)) (fun b ob q => Heap.get?_push_of_some _ q) (Nat.le_refl _) ?_, rfl, q2 (fun w => z (r2.nil_iff.mpr w)) _ (I.hok.fresh (Nat.le_refl _))⟩
  exact ⟨by rw [List.length_append]; exact hz, _, r1.append r2, IsTup.new _ _⟩
end
end L2

namespace L2
open PySem PySem.Spec PyProof.Rows

/-! ### places -/
/-- the place that an index of any sign means -/
def ixN (n : Nat) (i : Int) : Option Nat := if 0 ≤ i then (if i < n then some i.toNat else none) else if -(n : Int) ≤ i then some (i + n).toNat else none
def atI {α : Type} (xs : List α) (i : Int) : Option α := (ixN xs.length i).bind fun j => xs[j]?
theorem ixN_seq {n : Nat} {i : Int} {j : Nat} (h : ixN n i = some j) : seqIndex? i n = some j ∧ j < n ∧ -(n : Int) ≤ i ∧ i < n := by
  unfold ixN at h
  by_cases h0 : 0 ≤ i
  · rw [if_pos h0] at h
    by_cases h1 : i < n
    · rw [if_pos h1] at h
      have e : i.toNat = j := Option.some.inj h
      exact ⟨by rw [seqIndex_of h0 h1, e], by omega, by omega, h1⟩
    · rw [if_neg h1] at h; cases h
  · rw [if_neg h0] at h
    by_cases h1 : -(n : Int) ≤ i
    · rw [if_pos h1] at h
      have e : (i + n).toNat = j := Option.some.inj h
      exact ⟨by rw [seqIndex_neg (by omega) h1, e], by omega, h1, by omega⟩
    · rw [if_neg h1] at h; cases h
theorem atI_get {α : Type} {xs : List α} {i : Int} {v : α} (h : atI xs i = some v) : ∃ j, seqIndex? i xs.length = some j ∧ xs[j]? = some v ∧ j < xs.length ∧ -(xs.length : Int) ≤ i ∧ i < xs.length := by
  unfold atI at h
  cases e : ixN xs.length i with
  | none => rw [e] at h; cases h
  | some j =>
    rw [e] at h
    obtain ⟨h1, h2, h3, h4⟩ := ixN_seq e
    exact ⟨j, h1, h, h2, h3, h4⟩
theorem atI_nat {α : Type} {xs : List α} {j : Nat} {v : α} (h : xs[j]? = some v) : atI xs (j : Int) = some v := by
  have hj : j < xs.length := (List.getElem?_eq_some_iff.mp h).1
  have e : ixN xs.length (j : Int) = some j := by
    unfold ixN
    rw [if_pos (by omega), if_pos (by omega)]; simp
  unfold atI; rw [e]; exact h

/-! ### what may be subscripted -/
/-- what stands as an index of a plain subscript -/
def PlainIx (b : Expr) : Prop := ∀ o i, subscripted b false o i = operate [o, i] (getItem o i)
/-- a subscript by values -/
def IxR (X : Cx) (r : R2) : Prop :=
  ∀ (value slice : Expr) (pins : List (Addr × Obj)) (s : Shared) (σ : St) (H : Hp) (x y : V) (v u : Value) (Q : VK), Inv X pins σ H s → RelV x v → RelV y u → r x y H Q →
    subscripted slice false v u = operate [v, u] (getItem v u) → wpAny (model X.prog X.w) X.A (subscriptTail value slice v u) (EP X pins σ Q) X.xe s
/-- a call of a builtin's method by values: the receiver, the arguments -/
def MtR (X : Cx) (id : String) (r : V → List V → Hp → VK → Prop) : Prop :=
  ∀ (pins : List (Addr × Obj)) (s : Shared) (σ : St) (H : Hp) (x : V) (xs : List V) (v : Value) (us : List Value) (Q : VK), Inv X pins σ H s → RelV x v → Vals xs us → r x xs H Q →
    wpAny (model X.prog X.w) X.A (call (.builtin id) (v :: us)) (EP X pins σ Q) X.xe s
section
variable {X : Cx} {a b : Expr} {ta tb : TE} {pos : Pos}
theorem IxR.or {r r' : R2} (h : IxR X r) (h' : IxR X r') : IxR X (fun x y H Q => r x y H Q ∨ r' x y H Q) := by
  intro value slice pins s σ H x y v u Q I rx ry q hs
  rcases q with q | q
  · exact h value slice pins s σ H x y v u Q I rx ry q hs
  · exact h' value slice pins s σ H x y v u Q I rx ry q hs
theorem MtR.or {id : String} {r r' : V → List V → Hp → VK → Prop} (h : MtR X id r) (h' : MtR X id r') : MtR X id (fun x xs H Q => r x xs H Q ∨ r' x xs H Q) := by
  intro pins s σ H x xs v us Q I rx rs q
  rcases q with q | q
  · exact h pins s σ H x xs v us Q I rx rs q
  · exact h' pins s σ H x xs v us Q I rx rs q
/-- a[b] -/
theorem pe_ix {r : R2} (hr : IxR X r) (ha : PE X a ta) (hb : PE X b tb) (hs : PlainIx b) : PE X (.Subscript a b pos) (tOp r ta tb) := by
  intro pins s σ H Q I h
  exact Subscript_ (binT ha hb I h fun v u s2 x y H2 I2 rx ry q => hr a b pins s2 σ H2 x y v u Q I2 rx ry q (hs _ _))

def rIxL (K : PySem.W.Frag) : R2 := fun x y H Q => ∃ p xs i v, x = .ref p ∧ y = .int i ∧ SqL K H p xs ∧ atI xs i = some v ∧ Q v H
def rIxT (K : PySem.W.Frag) : R2 := fun x y H Q => ∃ p xs i v, x = .ref p ∧ y = .int i ∧ SqT K H p xs ∧ atI xs i = some v ∧ Q v H
def rIxS : R2 := fun x y H Q => ∃ z i c, x = .str z ∧ y = .int i ∧ z.length ≤ sizeLine ∧ atI z.cps.toList i = some c ∧ Q (.str ⟨#[c]⟩) H
theorem ix_list : IxR X (rIxL X.K) := by
  intro value slice pins s σ H x y v u Q I rx ry h hs
  obtain ⟨p, xs, i, z, rfl, rfl, hq, he, q⟩ := h
  cases rx
  obtain ⟨t, rfl⟩ := ry
  obtain ⟨its, r, pl, hz⟩ := I.list hq
  obtain ⟨j, h1, h2, h3, h4, h5⟩ := atI_get he
  obtain ⟨w, ew, rw'⟩ := r.get h2
  have hl := r.length
  have hn := line63
  have fin : EP X pins σ Q w s := ⟨z, H, I, rw', q⟩
  by_cases h0 : 0 ≤ i
  · have hj : i.toNat = j := by
      rw [seqIndex_of h0 h5] at h1
      exact Option.some.inj h1
    exact item_listR pl.isList h0 (by omega) (by rw [hj]; simpa using ew) fin hs
  · have hj : (i + (its.toArray.size : Int)).toNat = j := by
      rw [seqIndex_neg (by omega) h4] at h1
      rw [List.size_toArray, ← hl]
      exact Option.some.inj h1
    exact subscriptTail_builtinR (x := w) pl.isList.typeIs slot_list_getitem.lookup
      (wpAny_getItem_list_neg (Q := fun r s' => r = w ∧ EP X pins σ Q r s') pl.isList (by omega) (by rw [List.size_toArray] <;> omega) (by omega) (by rw [hj]; simpa using ew) ⟨rfl, fin⟩) hs
theorem ix_tup : IxR X (rIxT X.K) := by
  intro value slice pins s σ H x y v u Q I rx ry h hs
  obtain ⟨p, xs, i, z, rfl, rfl, hq, he, q⟩ := h
  cases rx
  obtain ⟨t, rfl⟩ := ry
  obtain ⟨its, r, pl, hz⟩ := I.tuple hq
  obtain ⟨j, h1, h2, h3, h4, h5⟩ := atI_get he
  obtain ⟨w, ew, rw'⟩ := r.get h2
  have hl := r.length
  have hn := line63
  have fin : EP X pins σ Q w s := ⟨z, H, I, rw', q⟩
  exact subscriptTail_builtinR (x := w) pl.typeIs slot_tuple_getitem.lookup
    (getItem_tuple (j := j) (Q := fun r s' => r = w ∧ EP X pins σ Q r s') pl (by omega) (by omega) (by rw [List.size_toArray, ← hl]; exact h1) (by simpa using ew) ⟨rfl, fin⟩) hs
theorem ix_str : IxR X rIxS := by
  intro value slice pins s σ H x y v u Q I rx ry h hs
  obtain ⟨z, i, c, rfl, rfl, hz, he, q⟩ := h
  obtain ⟨t, rfl⟩ := rx
  obtain ⟨t', rfl⟩ := ry
  obtain ⟨j, h1, h2, h3, h4, h5⟩ := atI_get he
  have hl : z.cps.toList.length = z.length := by simp [Str.length]
  rw [hl] at h1 h4 h5
  have hn := line63
  exact tail_any (typeIs_str s z t) slot_str_getitem.lookup (getItem_str (c := c) (by
    have e1 : decide (i < -(2 ^ 63 : Int)) = false := decide_eq_false (by omega)
    have e2 : decide (i ≥ 2 ^ 63) = false := decide_eq_false (by omega)
    rw [e1, e2, Bool.or_false]) (by rw [h1]; simpa using h2) ⟨.str ⟨#[c]⟩, H, I.tok _, ⟨_, rfl⟩, q⟩) hs
/-- list, tuple or str -/
def rIx (K : PySem.W.Frag) : R2 := fun x y H Q => rIxL K x y H Q ∨ rIxT K x y H Q ∨ rIxS x y H Q

/-! ### xs[i] = v, any sign -/
/-- the list's object behind a store -/
theorem mapSeq_set (its : List Value) (n j : Nat) (u : Value) : Obj.mapSeq (·.setIfInBounds j u) { cls := .type "list", data := .seq its.toArray n } = { cls := .type "list", data := .seq (its.set j u).toArray n } := by
  simp [Obj.mapSeq]
theorem Inv.lst {pins : List (Addr × Obj)} {σ : St} {H : Hp} {s : Shared} {p : Addr} {xs : List V} (I : Inv X pins σ H s) (h : H p = some (.lst xs)) :
    ∃ (its : List Value) (n : Nat), Vals xs its ∧ s.heap.get? p = some { cls := .type "list", data := .seq its.toArray n } ∧ xs.length ≤ sizeLine := by
  obtain ⟨z, its, n, r, e⟩ := I.hok p _ h
  exact ⟨its, n, r, e, z⟩
/-- the list at p is written by an update of its object -/
theorem Inv.lstUpd {pins : List (Addr × Obj)} {σ : St} {H : Hp} {s : Shared} {p : Addr} {xs ys : List V} {its its' : List Value} {n n' : Nat} {f : Obj → Obj} (I : Inv X pins σ H s) (h : H p = some (.lst xs))
    (ho : s.heap.get? p = some { cls := .type "list", data := .seq its.toArray n }) (hf : f { cls := .type "list", data := .seq its.toArray n } = { cls := .type "list", data := .seq its'.toArray n' }) (r : Vals ys its') (hz : ys.length ≤ sizeLine) (t : Nat) :
    Inv X pins σ (upd H p (.lst ys)) { s with heap := s.heap.update p f, toks := t } := by
  have e : (s.heap.update p f).get? p = some { cls := .type "list", data := .seq its'.toArray n' } := by
    rw [Heap.get?_update_self f ho (by rw [hf] <;> rfl), hf]
  refine I.write (x := p) (e := p) (by rw [h]; trivial) (.inl rfl) (fun b u hb q => (Heap.get?_update_other _ _ (Ne.symm hb)).trans q) ⟨_, e⟩ ?_
  exact ⟨hz, its', n', r, e⟩
def rSetL : V → V → V → Hp → (Hp → Prop) → Prop := fun o i v H Q => ∃ p xs k j, o = .ref p ∧ i = .int k ∧ H p = some (.lst xs) ∧ ixN xs.length k = some j ∧ Q (upd H p (.lst (xs.set j v)))
theorem set_list : PSet X rSetL := by
  intro pins s σ H o i v ov iv u Q I ro ri rv h
  obtain ⟨p, xs, k, j, rfl, rfl, hp, hj, q⟩ := h
  cases ro
  obtain ⟨t, rfl⟩ := ri
  obtain ⟨its, n, r, ho, hz⟩ := I.lst hp
  obtain ⟨h1, h2, h3, h4⟩ := ixN_seq hj
  have hl := r.length
  have hn := line63
  have I' : Inv X pins σ (upd H p (.lst (xs.set j v))) { s with heap := s.heap.update p (Obj.mapSeq (·.setIfInBounds j u)) } :=
    I.lstUpd hp ho (mapSeq_set its n j u) (r.set rv j) (by rw [List.length_set]; exact hz) s.toks
  by_cases h0 : 0 ≤ k
  · have hk : k.toNat = j := by
      rw [seqIndex_of h0 h4] at h1
      exact Option.some.inj h1
    exact PySem.W.ki_setAt ho h0 (by omega) (by rw [List.size_toArray, ← hl]; exact h4) (by rw [hk]; exact ⟨_, I', q⟩)
  · have hk : (k + (its.toArray.size : Int)).toNat = j := by
      rw [seqIndex_neg (by omega) h3] at h1
      rw [List.size_toArray, ← hl]
      exact Option.some.inj h1
    exact PySem.W.ki_setBack ho (by omega) (by rw [List.size_toArray, ← hl]; exact h3) (by omega) (by rw [hk]; exact ⟨_, I', q⟩)

/-! ### slices -/
theorem slice_bounds (lo hi : Option Int) (n : Nat) : (sliceBounds lo hi none n).1 = ((HT.sIx n 0 lo : Nat) : Int) ∧ (sliceBounds lo hi none n).2.1 = ((HT.sIx n n hi : Nat) : Int) ∧ (sliceBounds lo hi none n).2.2 = 1 := by
  refine ⟨?_, ?_, rfl⟩
  · cases lo with
    | none => simp [sliceBounds, HT.sIx]
    | some i =>
      simp only [sliceBounds, HT.sIx, Option.getD_none, show (1 : Int) > 0 by decide, if_true]
      by_cases h : i < 0
      · simp only [h, if_true] <;> omega
      · simp only [h, if_false] <;> omega
  · cases hi with
    | none => simp [sliceBounds, HT.sIx]
    | some i =>
      simp only [sliceBounds, HT.sIx, Option.getD_none, show (1 : Int) > 0 by decide, if_true]
      by_cases h : i < 0
      · simp only [h, if_true] <;> omega
      · simp only [h, if_false] <;> omega
theorem slicePick_cut (its : List Value) (lo hi : Option Int) : slicePick its.toArray lo hi none = ((its.drop (HT.sIx its.length 0 lo)).take (HT.sIx its.length its.length hi - HT.sIx its.length 0 lo)).toArray := by
  obtain ⟨h1, h2, h3⟩ := slice_bounds lo hi its.toArray.size
  unfold slicePick
  rw [h1, h2, h3]
  simp only [sliceRange_one, pick_run, List.size_toArray] <;> rfl
/-- xs[lo:hi] of a list: a new list -/
def rSlL (K : PySem.W.Frag) : V → Option Int → Option Int → Hp → VK → Prop := fun x lo hi H Q => ∃ a xs, x = .ref a ∧ SqL K H a xs ∧ ∀ p, H p = none → Q (.ref p) (upd H p (.lst (cutV xs lo hi)))
theorem sl_list : SlR X (rSlL X.K) := by
  intro pins s σ H x v vl vu lo hi sl Q I rx hs pl pu h
  obtain ⟨a, xs, rfl, hx, q⟩ := h
  cases rx
  obtain ⟨its, r, ht, hz⟩ := I.list hx
  have hlen := r.length
  refine ⟨"list", _, slot_list_getitem.lookup, ht.isList.typeIs, ?_⟩
  refine wpAny_getItem_list_slice ht.isList hs pl pu .none (by simp) ?_ (by rw [List.size_toArray] <;> omega)
  rw [slicePick_cut, ← hlen]
  refine ⟨.ref s.heap.objs.size, _, I.laid (t' := s.toks) (o := .lst (cutV xs lo hi)) (fun b ob q => Heap.get?_push_of_some _ q) (Nat.le_refl _) ?_, rfl, q _ (I.hok.fresh (Nat.le_refl _))⟩
  exact ⟨Nat.le_trans (cutV_length xs lo hi) hz, _, 0, (r.drop (HT.sIx xs.length 0 lo)).take (HT.sIx xs.length xs.length hi - HT.sIx xs.length 0 lo), Heap.get?_push_size _ rfl⟩

/-! ### in, not in: flat items -/
def flatV : V → Bool
  | .non => true
  | .bl _ => true
  | .int _ => true
  | .str _ => true
  | _ => false
/-- == of flat values -/
def eqV : V → V → Bool
  | .non, .non => true
  | .bl a, .bl b => a == b
  | .bl a, .int b => (if a then 1 else 0) == b
  | .int a, .bl b => a == (if b then 1 else 0)
  | .int a, .int b => a == b
  | .str a, .str b => a == b
  | _, _ => false
/-- the items' answers, read off the values (a value's own answer does not lean on its token) -/
def eqU (x : V) (u : Value) : Bool := match u with
  | .none => eqV .non x
  | .bool b => eqV (.bl b) x
  | .int i _ => eqV (.int i) x
  | .str z _ => eqV (.str z) x
  | _ => false
def inV (x : V) (xs : List V) : Bool := xs.any fun y => eqV y x
/-- x in a list or tuple of flat items -/
def rIn (K : PySem.W.Frag) (neg : Bool) : R2 := fun x y H Q => ∃ p xs, y = .ref p ∧ (SqL K H p xs ∨ SqT K H p xs) ∧ flatV x = true ∧ xs.all flatV = true ∧ Q (.bl (if neg then !inV x xs else inV x xs)) H

/-! ### len, list(x), tuple(x) of any list or tuple that is read -/
theorem call_len_seq : CallR X (.builtin "len") (fun xs H Q => ∃ p ys, xs = [.ref p] ∧ (SqL X.K H p ys ∨ SqT X.K H p ys) ∧ Q (.int ys.length) H) := by
  intro pins s σ H xs us Q I r h
  obtain ⟨p, ys, rfl, hq, q⟩ := h
  obtain ⟨u, rfl, rx⟩ := vals1 r
  cases rx
  have hn := line63
  rcases hq with hq | hq
  · obtain ⟨its, r', pl, hz⟩ := I.list hq
    have hlen := r'.length
    exact Calls.call_len_list pl.isList (by simp only [List.size_toArray] <;> omega) ⟨.int ys.length, H, I.tok _, ⟨s.toks + 1, by rw [List.size_toArray, hlen]⟩, q⟩
  · obtain ⟨its, r', pl, hz⟩ := I.tuple hq
    have hlen := r'.length
    exact len_tuple pl (by simp only [List.size_toArray] <;> omega) ⟨.int ys.length, H, I.tok _, ⟨s.toks + 1, by rw [List.size_toArray, hlen]⟩, q⟩
theorem call_len_str : CallR X (.builtin "len") (fun xs H Q => ∃ z, xs = [.str z] ∧ z.length ≤ sizeLine ∧ Q (.int z.length) H) := by
  intro pins s σ H xs us Q I r h
  obtain ⟨z, rfl, hz, q⟩ := h
  obtain ⟨u, rfl, t, rfl⟩ := vals1 r
  have hn := line63
  exact len_str (by omega) ⟨.int z.length, H, I.tok _, ⟨_, rfl⟩, q⟩
theorem CallR.or {f : Value} {r r' : List V → Hp → VK → Prop} (h : CallR X f r) (h' : CallR X f r') : CallR X f (fun xs H Q => r xs H Q ∨ r' xs H Q) := by
  intro pins s σ H xs us Q I rs q
  rcases q with q | q
  · exact h pins s σ H xs us Q I rs q
  · exact h' pins s σ H xs us Q I rs q
theorem call_list_of : CallR X (.type "list") (fun xs H Q => ∃ p ys, xs = [.ref p] ∧ (SqL X.K H p ys ∨ SqT X.K H p ys) ∧ ∀ l, H l = none → Q (.ref l) (upd H l (.lst ys))) := by
  intro pins s σ H xs us Q I r h
  obtain ⟨p, ys, rfl, hq, q⟩ := h
  obtain ⟨u, rfl, rx⟩ := vals1 r
  cases rx
  have fin : ∀ (its : List Value), Vals ys its → ys.length ≤ sizeLine → ∀ (h' : Heap) (c' : Nat), (∀ b o', s.heap.get? b = some o' → h'.get? b = some o') →
      h'.get? s.heap.objs.size = some { cls := .type "list", dict := none, data := .seq its.toArray c', slots := #[] } → EP X pins σ Q (.ref s.heap.objs.size) { s with heap := h' } := fun its r' hz h' c' kp e =>
    ⟨.ref s.heap.objs.size, _, I.laid (t' := s.toks) kp (Nat.le_refl _) (show ObjOk X.prog X.w _ h' _ (.lst ys) from ⟨hz, its, c', r', e⟩), rfl, q _ (I.hok.fresh (Nat.le_refl _))⟩
  rcases hq with hq | hq
  · obtain ⟨its, r', pl, hz⟩ := I.list hq
    have hlen := r'.length
    obtain ⟨o, ho, hc, n, hd⟩ := pl.isList
    exact call_list_seq p (.inl rfl) ho hc hd (fun h' c' kp e => fin its r' hz h' c' kp e) (by simp only [List.size_toArray] <;> omega)
  · obtain ⟨its, r', pl, hz⟩ := I.tuple hq
    have hlen := r'.length
    obtain ⟨o, ho, hc, n, hd⟩ := pl
    exact call_list_seq p (.inr rfl) ho hc hd (fun h' c' kp e => fin its r' hz h' c' kp e) (by simp only [List.size_toArray] <;> omega)
theorem call_tuple_of : CallR X (.type "tuple") (fun xs H Q => ∃ p ys, xs = [.ref p] ∧ ((SqL X.K H p ys ∧ ∀ l, H l = none → Q (.ref l) (upd H l (.tup ys))) ∨ (SqT X.K H p ys ∧ Q (.ref p) H))) := by
  intro pins s σ H xs us Q I r h
  obtain ⟨p, ys, rfl, h⟩ := h
  obtain ⟨u, rfl, rx⟩ := vals1 r
  cases rx
  rcases h with ⟨hq, q⟩ | ⟨hq, q⟩
  · obtain ⟨its, r', pl, hz⟩ := I.list hq
    have hlen := r'.length
    refine call_tuple_list pl.isList (fun h' kp => ?_) (by simp only [List.size_toArray] <;> omega)
    have I1 : Inv X pins σ H { s with heap := h' } := I.kept (t' := s.toks) kp
    have I2 : Inv X pins σ (upd H h'.objs.size (.tup ys)) { s with heap := h'.push { cls := .type "tuple", data := .seq its.toArray } } :=
      I1.laid (t' := s.toks) (fun b o e => Heap.get?_push_of_some _ e) (Nat.le_refl _) (show ObjOk X.prog X.w _ _ _ (.tup ys) from ⟨hz, its, r', IsTup.new _ _⟩)
    exact ⟨.ref h'.objs.size, _, I2, rfl, q _ (I1.hok.fresh (Nat.le_refl _))⟩
  · obtain ⟨its, r', pl, hz⟩ := I.tuple hq
    exact call_tuple_same pl ⟨.ref p, H, I, rfl, q⟩

/-! ### the call of a builtin's method: o.m(..) -/
/-- the value is of that builtin type -/
def tyV (K : PySem.W.Frag) (T : String) (x : V) (H : Hp) : Prop := match x with
  | .str _ => T = "str"
  | .int _ => T = "int"
  | .ref p => (T = "list" ∧ ∃ xs, SqL K H p xs) ∨ (T = "tuple" ∧ ∃ o, K.lookup p = some o ∧ o.cls = .type "tuple" ∧ o.dict = none) ∨
      (T = "dict" ∧ ((∃ kvs, H p = some (.dK kvs)) ∨ ∃ kvs, H p = some (.dT kvs))) ∨ (T = "set" ∧ ∃ S n, H p = some (.set S n))
  | _ => False
theorem tyV_is {pins : List (Addr × Obj)} {σ : St} {H : Hp} {s : Shared} {T : String} {x : V} {v : Value} (I : Inv X pins σ H s) (r : RelV x v) (ty : tyV X.K T x H) :
    s.TypeIs v T ∧ ∀ a, v = .ref a → ∃ ob, s.heap.get? a = some ob ∧ ob.dict = none := by
  cases x with
  | str z =>
    obtain ⟨t, rfl⟩ := r
    cases (show T = "str" from ty)
    exact ⟨typeIs_str s z t, fun _ e => nomatch e⟩
  | int i =>
    obtain ⟨t, rfl⟩ := r
    cases (show T = "int" from ty)
    exact ⟨typeIs_int s i t, fun _ e => nomatch e⟩
  | ref p =>
    cases r
    rcases ty with ⟨rfl, xs, hq⟩ | ⟨rfl, o, hk, hc, hd⟩ | ⟨rfl, hk⟩ | ⟨rfl, S, n, hk⟩
    · obtain ⟨its, _, pl, _⟩ := I.list hq
      refine ⟨pl.isList.typeIs, fun a e => ?_⟩
      cases e
      obtain ⟨o, n, e, c, hd, _⟩ := pl
      exact ⟨o, e, hd⟩
    · refine ⟨⟨o, I.kIn p o hk, hc⟩, fun a e => ?_⟩
      cases e
      exact ⟨o, I.kIn _ o hk, hd⟩
    · have z : ∃ o, s.heap.get? p = some o ∧ o.ExactDict := by
        rcases hk with ⟨kvs, hk⟩ | ⟨kvs, hk⟩
        · obtain ⟨_, _, _, _, o, _, _, e, ex, _⟩ := I.hok p _ hk
          exact ⟨o, e, ex⟩
        · obtain ⟨_, _, _, _, o, _, _, e, ex, _⟩ := I.hok p _ hk
          exact ⟨o, e, ex⟩
      obtain ⟨o, e, ex⟩ := z
      refine ⟨⟨o, e, ex.1⟩, fun a e2 => ?_⟩
      cases e2
      exact ⟨o, e, ex.2.1⟩
    · obtain ⟨o, _, _, _, e, ex, _⟩ := I.hok p _ hk
      refine ⟨⟨o, e, ex.1⟩, fun a e2 => ?_⟩
      cases e2
      exact ⟨o, e, ex.2.1⟩
  | _ => exact False.elim ty
def tBM0 (K : PySem.W.Frag) (T : String) (r : V → List V → Hp → VK → Prop) (to : TE) : TE := fun σ H Q => to σ H fun x H1 => tyV K T x H1 ∧ r x [] H1 Q
def tBM (K : PySem.W.Frag) (T : String) (r : V → List V → Hp → VK → Prop) (to : TE) (t : TA) : TE := fun σ H Q => to σ H fun x H1 => tyV K T x H1 ∧ t σ H1 fun xs H2 => r x xs H2 Q
variable {o e : Expr} {es : List Expr} {to : TE} {t : TA} {name : Str} {apos cpos : Pos} {T id : String} {r : V → List V → Hp → VK → Prop}
theorem pe_bm (pa : PlainAttrs T) (slot : Slot T name id) (hty : typeOf (.builtin id) = pure (.type "method_descriptor")) (hm : MtR X id r) (ho : PE X o to) (ha : PA X (e :: es) t)
    (hbase : attributeBase o name X.env (eval o X.env) = eval o X.env := by rfl)
    (hfew : ((backTo cpos (starEach (e :: es) X.env)).all (fun x => !x.1) && (backToKw cpos (keywordEach [] X.env)).all (fun x => x.1.isSome)
      && decide ((e :: es).length + ([] : List Keyword).length + (if ([] : List Keyword).isEmpty then 0 else 1) < 30)) = true := by rfl)
    (hline : (apos.endLine == cpos.line) = true := by rfl) (hs : starEach (e :: es) X.env = (false, eval e X.env) :: starEach es X.env := by rfl) (hplain : (backTo cpos (starEach es X.env)).any (·.1) = false := by rfl) :
    PE X (.Call (.Attribute o name apos) (e :: es) [] cpos) (tBM X.K T r to t) := by
  intro pins s σ H Q I h
  refine wpAny_Call_method_late hbase hfew hline rfl (thn (ho pins s σ H _ I h) fun v s1 ⟨x, H1, I1, r1, ty, q1⟩ => ?_)
  obtain ⟨h1, h2⟩ := tyV_is I1 r1 ty
  refine ⟨T, id, pa, slot, hty, h1, h2, ?_⟩
  have hA := ha cpos pins s1 σ H1 _ I1 q1
  rw [hs] at hA ⊢
  refine Calls.callWith_builtin (by show (false || (backTo cpos (starEach es X.env)).any (·.1)) = false; rw [hplain] <;> rfl) (Calls.evalArgs_plain ?_)
  exact thn hA fun us s2 ⟨vs, H2, I2, r2, q2⟩ => hm pins s2 σ H2 x vs v us Q I2 r1 r2 q2
/- xs.append(e), list.index on a module's tuple .. are MtR facts of 06m -/
end
end L2

namespace L2
open PySem PySem.Spec PyProof.Rows

def MtM (X : Cx) (id : String) (r : V → List V → Hp → VK → Prop) : Prop :=
  ∀ (pins : List (Addr × Obj)) (s : Shared) (σ : St) (H : Hp) (x : V) (xs : List V) (v : Value) (us : List Value) (Q : VK), Inv X pins σ H s → RelV x v → Vals xs us → r x xs H Q →
    wpAny (model X.prog X.w) X.A (call (.builtin id) (v :: us)) (EP X pins σ Q) X.xe s

/-! ### lists of values -/
theorem Vals.one : ∀ {x : V} {us : List Value}, Vals [x] us → ∃ u, us = [u] ∧ RelV x u
  | _, _, .cons r .nil => ⟨_, rfl, r⟩
theorem Vals.zero : ∀ {us : List Value}, Vals [] us → us = []
  | _, .nil => rfl
theorem Vals.dropLast {xs : List V} {us : List Value} (h : Vals xs us) : Vals xs.dropLast us.dropLast := by
  induction h with
  | nil => exact .nil
  | cons r t ih =>
    cases t with
    | nil => exact .nil
    | cons q t' => exact .cons r ih
theorem Vals.eraseIdx : ∀ {xs : List V} {us : List Value} (i : Nat), Vals xs us → Vals (xs.eraseIdx i) (us.eraseIdx i)
  | _, _, _, .nil => .nil
  | _, _, 0, .cons _ t => t
  | _, _, i + 1, .cons r t => .cons r (Vals.eraseIdx i t)
theorem Vals.reverse {xs : List V} {us : List Value} (h : Vals xs us) : Vals xs.reverse us.reverse := by
  induction h with
  | nil => exact .nil
  | cons r t ih => rw [List.reverse_cons, List.reverse_cons]; exact Vals.append ih (.cons r .nil)
theorem Vals.rep {xs : List V} {us : List Value} (h : Vals xs us) : ∀ k : Nat, Vals (List.replicate k xs).flatten (List.replicate k us).flatten
  | 0 => .nil
  | k + 1 => by
    rw [List.replicate_succ, List.replicate_succ, List.flatten_cons, List.flatten_cons]
    exact Vals.append h (Vals.rep h k)
theorem foldl_rep (its : List Value) : ∀ (k : Nat) (acc : List Value),
    List.foldl (fun x1 x2 => x1 ++ x2) acc.toArray (List.replicate k its.toArray) = (acc ++ (List.replicate k its).flatten).toArray
  | 0, acc => by simp
  | k + 1, acc => by
    have e : acc.toArray ++ its.toArray = (acc ++ its).toArray := by simp
    have e2 : (acc ++ its) ++ (List.replicate k its).flatten = acc ++ (List.replicate (k + 1) its).flatten := by
      rw [List.replicate_succ, List.flatten_cons, List.append_assoc]
    rw [← e2, ← foldl_rep its k (acc ++ its), ← e, List.replicate_succ, List.foldl_cons]

section
variable {X : Cx} {pins : List (Addr × Obj)} {σ : St} {H : Hp} {s : Shared} {l b : Addr} {xs ys zs : List V}

/-! ### the two steps: a tracked list is rewritten, a new list is laid -/
theorem Inv.lset {its its' : List Value} {n : Nat} {f : Array Value → Array Value} {t' : Nat} (I : Inv X pins σ H s) (hH : H l = some (.lst xs))
    (e : s.heap.get? l = some { cls := .type "list", data := .seq its.toArray n }) (hf : f its.toArray = its'.toArray) (hv : Vals ys its') (hz : ys.length ≤ sizeLine) :
    Inv X pins σ (upd H l (.lst ys)) { s with heap := s.heap.update l (Obj.mapSeq f), toks := t' } := by
  have q := PySem.IsL.update e f
  rw [hf] at q
  refine I.write (x := l) (e := l) (by rw [hH]; exact trivial) (.inl rfl) (fun b' u hb hu => (Heap.get?_update_other s.heap (Obj.mapSeq f) (Ne.symm hb)).trans hu) ⟨_, q⟩ ?_
  exact ⟨hz, its', _, hv, q⟩
theorem Inv.lnew {its : List Value} {t' : Nat} (I : Inv X pins σ H s) (hv : Vals ys its) (hz : ys.length ≤ sizeLine) :
    Inv X pins σ (upd H s.heap.objs.size (.lst ys)) { s with heap := s.heap.push { cls := .type "list", data := .seq its.toArray }, toks := t' } :=
  I.laid (fun _ _ q => Heap.get?_push_of_some _ q) (Nat.le_refl _) ⟨hz, its, 0, hv, Heap.get?_push_size _ rfl⟩
theorem Inv.fresh (I : Inv X pins σ H s) : H s.heap.objs.size = none := I.hok.fresh (Nat.le_refl _)
theorem Inv.lstM (I : Inv X pins σ H s) (hH : H l = some (.lst xs)) : xs.length ≤ sizeLine ∧ ∃ (its : List Value) (n : Nat), Vals xs its ∧ xs.length = its.length ∧ s.heap.get? l = some { cls := .type "list", data := .seq its.toArray n } := by
  obtain ⟨z, its, n, r, e⟩ := I.hok l _ hH
  exact ⟨z, its, n, r, r.length, e⟩

theorem notLongL {n : Nat} (h : n ≤ sizeLine) : Builtin.List.listTooLong n = false := by
  unfold Builtin.List.listTooLong
  exact decide_eq_false (by omega)
end

section
variable {X : Cx}

/-! ### methods -/
def rAppend : V → List V → Hp → VK → Prop := fun x vs H Q => ∃ l xs y, x = .ref l ∧ vs = [y] ∧ H l = some (.lst xs) ∧ xs.length < sizeLine ∧ Q .non (upd H l (.lst (xs ++ [y])))
theorem mt_append : MtM X "list.append" rAppend := by
  intro pins s σ H x vs v us Q I rx rv h
  obtain ⟨l, xs, y, rfl, rfl, hH, hz, q⟩ := h
  cases rx
  obtain ⟨u, rfl, ru⟩ := rv.one
  obtain ⟨z, its, n, r, hl, e⟩ := I.lstM hH
  refine call_meets F.slot_list_append ⟨_, e, rfl⟩ F.entry_list_append (F.args_list_append_2 _ _) (PySem.list_append l its.toArray n u (by rw [List.size_toArray]; omega)) ⟨e, ?_⟩
  refine ⟨.non, _, I.lset (its' := its ++ [u]) hH e (by simp) (r.append (.cons ru .nil)) ?_, rfl, q⟩
  rw [List.length_append, List.length_singleton]
  omega

def rExtend : V → List V → Hp → VK → Prop := fun x vs H Q => ∃ l b xs zs, x = .ref l ∧ vs = [.ref b] ∧ H l = some (.lst xs) ∧ H b = some (.lst zs) ∧ xs.length + zs.length ≤ sizeLine ∧ Q .non (upd H l (.lst (xs ++ zs)))
theorem mt_extend : MtM X "list.extend" rExtend := by
  intro pins s σ H x vs v us Q I rx rv h
  obtain ⟨l, b, xs, zs, rfl, rfl, hH, hB, hz, q⟩ := h
  cases rx
  obtain ⟨u, rfl, ru⟩ := rv.one
  cases ru
  obtain ⟨z, its, n, r, hl, e⟩ := I.lstM hH
  obtain ⟨z2, its2, n2, r2, hl2, e2⟩ := I.lstM hB
  have hsz : its.toArray.size + its2.toArray.size ≤ sizeLine := by rw [List.size_toArray, List.size_toArray]; omega
  have hlong : ¬ (!its.toArray.isEmpty && Builtin.List.listTooLong (its.toArray.size + its2.toArray.size)) = true := by
    rw [notLongL hsz, Bool.and_false]
    exact Bool.false_ne_true
  refine call_meets F.slot_list_extend ⟨_, e, rfl⟩ F.entry_list_extend (F.args_list_extend_2 _ _)
    (AutoSeq1.list_extend_list_list_0 l its.toArray n b its2.toArray n2 hlong (by rw [List.size_toArray]; omega) (by omega)) ⟨e, e2, ?_⟩
  refine ⟨.non, _, I.lset (its' := its ++ its2) hH e (by simp) (r.append r2) ?_, rfl, q⟩
  rw [List.length_append]
  omega

def rPop : V → List V → Hp → VK → Prop := fun x vs H Q => ∃ l xs y, x = .ref l ∧ vs = [] ∧ H l = some (.lst xs) ∧ xs[xs.length - 1]? = some y ∧ Q y (upd H l (.lst xs.dropLast))

def rPopAt : V → List V → Hp → VK → Prop := fun x vs H Q => ∃ l xs i k y, x = .ref l ∧ vs = [.int i] ∧ H l = some (.lst xs) ∧ -(2 ^ 63) ≤ i ∧ i < 2 ^ 63 ∧ seqIndex? i xs.length = some k ∧ xs[k]? = some y ∧ Q y (upd H l (.lst (xs.eraseIdx k)))

def rReverse : V → List V → Hp → VK → Prop := fun x vs H Q => ∃ l xs, x = .ref l ∧ vs = [] ∧ H l = some (.lst xs) ∧ Q .non (upd H l (.lst xs.reverse))

def rClear : V → List V → Hp → VK → Prop := fun x vs H Q => ∃ l xs, x = .ref l ∧ vs = [] ∧ H l = some (.lst xs) ∧ Q .non (upd H l (.lst []))

/-! ### list + list, list += list, list * int -/
def rCat : R2 := fun x y H Q => ∃ l b xs zs, x = .ref l ∧ y = .ref b ∧ H l = some (.lst xs) ∧ H b = some (.lst zs) ∧ xs.length + zs.length ≤ sizeLine ∧ ∀ p, H p = none → Q (.ref p) (upd H p (.lst (xs ++ zs)))
theorem op_cat : OpR X (binaryOp .Add) rCat := by
  intro pins s σ H x y v u Q I rx ry h
  obtain ⟨l, b, xs, zs, rfl, rfl, hH, hB, hz, q⟩ := h
  cases rx
  cases ry
  obtain ⟨z, its, n, r, hl, e⟩ := I.lstM hH
  obtain ⟨z2, its2, n2, r2, hl2, e2⟩ := I.lstM hB
  refine PySem.P.add_list e e2 ?_ (by rw [List.size_toArray, List.size_toArray]; omega)
  have ea : its.toArray ++ its2.toArray = (its ++ its2).toArray := by simp
  rw [ea]
  exact ⟨.ref _, _, I.lnew (t' := s.toks) (r.append r2) (by rw [List.length_append]; omega), rfl, q _ I.fresh⟩
/-- a list times an int (a negative one is nothing) -/
def rRep : R2 := fun x y H Q => ∃ l k xs, x = .ref l ∧ y = .int k ∧ H l = some (.lst xs) ∧ -(2 ^ 63) ≤ k ∧ k < 2 ^ 63 ∧ xs.length * k.toNat ≤ sizeLine ∧
  ∀ p, H p = none → Q (.ref p) (upd H p (.lst (List.replicate k.toNat xs).flatten))

/-! ### del xs[i] -/
end

/-! ### xs[a:b] = ys -/
section
variable {prog : Program} {w : World} {A : Around} {E : Value → Shared → Prop} {s : Shared}
end

section
variable {X : Cx}
end
end L2

namespace Att
open PySem PySem.W PySem.Calls PyProof.Rows

/-! ### the script -/
theorem ints_of_wellAll {P : Params} {h : Heap} : ∀ (ns : List Int) (vs : List Value), WellAll P h vs (ns.map WData.int) → IntsAre vs ns := by
  intro ns
  induction ns with
  | nil =>
    intro vs w
    rw [List.map_nil] at w
    cases w
    exact .nil
  | cons n ns ih =>
    intro vs w
    rw [List.map_cons] at w
    cases w with
    | cons a b =>
      cases a
      exact .cons _ _ (ih _ b)

theorem script_of {l : OpenLaw} {n : Nat} (hn : l.most = some n) {P : Params} {h : Heap} {args : List WData} {vals : List Value}
    (hpre : l.row.toRowW.claim.pre args = true) (hwl : WellAll P h vals args) :
    ∃ a vs ns, vals = [Value.ref a] ∧ args = [WData.list (ns.map WData.int)] ∧ h.get? a = some { cls := .type "list", data := .seq vs.toArray } ∧ IntsAre vs ns ∧ ns.length ≤ n := by
  have hsh : WShape.hasAll [] args [.list .int] = true := (pre_splitW hpre).1
  have hc : l.pre.holds [] { args := args } = true := (pre_splitW hpre).2
  obtain ⟨d, r, rfl, h1, h2⟩ := hasAllW_cons hsh
  obtain rfl := hasAllW_nil h2
  obtain ⟨xs, rfl, h3⟩ := hasW_list h1
  obtain ⟨ns, rfl⟩ := items_int h3
  have hlen : ns.length ≤ n := by
    unfold OpenLaw.pre at hc
    have h4 : (WTm.not (.lt (.lit (.int (n : Int))) (.len (.arg 0)))).holds [] { args := [.list (ns.map .int)] } = true := by
      have h4 := (holds_andW hc).1
      rw [hn] at h4
      exact h4
    have h5 := condW_of h4 (w_not (w_lt w_lit (w_len_list (w_arg rfl))))
    rw [List.length_map] at h5
    refine Nat.le_of_not_lt fun q => ?_
    have q' : (n : Int) < ((ns.length : Nat) : Int) := by omega
    first
      | (rw [decide_eq_true q'] at h5; exact absurd h5 (by decide))
      | (simp at h5; omega)
  cases hwl with
  | cons w1 w2 =>
    cases w2
    cases w1 with
    | list ho hall => exact ⟨_, _, ns, rfl, rfl, ho, ints_of_wellAll ns _ hall, hlen⟩

theorem post_true (l : OpenLaw) (args : List WData) : l.row.toRowW.claim.post args (.bool true) args = true :=
  postW_of (r := l.row.toRowW) (X := (true == true))
    (show WShape.has [] (.bool true) .bool = true by first | rfl | decide | simp [WShape.has, WShape.arms, WShape.armsAll])
    (show (WTm.eq .res (.lit (.bool true))).value [] { args := args, res := some (.bool true), after := args } = some (.bool (true == true)) from w_eq_bool (w_res rfl) w_lit) rfl

/-! ### the attachment: holds_open's last premise (the goal 'hc' behind k_head) from a wpAny of the law's body -/

/-- the same from a codeAny of the CALL (for a layer whose function contracts speak of calls) -/
theorem attach_call {l : OpenLaw} {n : Nat} {q : Program} {loose : List Str} {XP : (Str → Option Value) → Heap → Prop} {YP : World → Heap → Prop} {d : DefRec}
    (hn : l.most = some n) (hdf : d.params.defaults = [])
    (call : ∀ (w : World) (s₀ s₁ : Shared) (mg mb : Str → Option Value) (fa : Addr) (o : Obj) (pm cd doc : Value) (a : Addr) (vs : List Value) (ns : List Int),
      Ground q loose [] XP w s₀ mg mb s₁.heap → YP w s₁.heap →
      s₁.heap.get? fa = some o → o.data = .func (docDef d.name d.params d.body d.scope pm cd doc) → s₁.heap.CodeRec cd d.name → mg d.name = some (.ref fa) →
      s₁.heap.get? a = some { cls := .type "list", data := .seq vs.toArray } → IntsAre vs ns → ns.length ≤ n → s₁.gens = #[] →
      codeAny (model l.prog w) callerA (.call (.ref fa) ⟨[.ref a], []⟩) (fun r s' => r = .ok (.ret (.bool true)) ∧ OldK s₁.heap s'.heap ∧ s'.os = s₁.os ∧ AllBare s'.gens) s₁) :
    WalkO q loose XP YP l.row.toRowW d [] (fun f vs => PySem.call f vs) := by
  intro w s₀ s₁ mg mb G Y fa o pm cd doc dV kV ho hd hcd hD hmg hg args vals as hpre hlay hrd hwl hlo
  obtain rfl : dV = .none := Dflts.none hD hdf
  obtain rfl : kV = .none := Dflts.noKw hD
  obtain ⟨a, vs, ns, rfl, rfl, hobj, hints, hlen⟩ := script_of hn hpre hwl
  refine enter_call (codeAny_mono (call w s₀ s₁ mg mb fa o pm cd doc a vs ns G Y ho (fd_plain hd) hcd hmg hobj hints hlen hg) fun r s' hq => ?_)
  obtain ⟨rfl, h2, h3, h4⟩ := hq
  exact ⟨.inl ⟨.bool true, .bool true, [], rfl, fun _ => rfl, .bool true, post_true l _, fun _ => ⟨List.Pairwise.nil, fun _ hm => (nomatch hm)⟩⟩, h2, h3, h4⟩


/-! ### rules over ANY heap (no ledger) from facts about the written part K: the library's own take a ledger (News) for what they write -/
section
variable {prog : Program} {w : World} {A : Around} {E : Value → Shared → Prop} {s : Shared} {K : Frag}





/-! the whole heap as the ledger: makes every rule that writes through a ledger a rule over any heap -/
def noObjs (h : Heap) : Heap := { h with objs := #[] }
def ledger (h : Heap) (L d : Addr) : List (Addr × Obj) := (List.range h.objs.size).filterMap fun a => if a = L ∨ a = d then none else (h.get? a).map fun o => (a, o)

end
end Att

namespace L2
open PySem PySem.Spec PyProof.Rows

theorem vals_ints : ∀ {vs : List Value} {ns : List Int}, IntsAre vs ns → Vals (ns.map V.int) vs
  | _, _, .nil => .nil
  | _, _, .cons n t h => .cons ⟨t, rfl⟩ (vals_ints h)

/-- nothing is tracked but the script, known to the object (or it is an object of the module) -/
def Only (H : Hp) : Prop := ∀ b, H b = none ∨ ∃ o xs, H b = some (.frz o (.lst xs))

/-- THE HEAD: the law's promise, at the heap behind the top. F, the promise of the law's def, may use that base is part of the heap (so K.In base, base.Ns mainGlobals mg stand in Mod) -/
theorem law_call {P : Program} {w : World} {K : PySem.W.Frag} {mg mb : Str → Option Value} {CX : CXT} {k : Nat} {fa a : Addr} {fd : FuncData} {x : Str} {sp : Sp} {s₁ : Shared} {vs : List Value} {ns : List Int}
    (KX : K.In s₁.heap) (hns : s₁.heap.Ns mainGlobals mg) (hb : s₁.heap.Ns builtinsNs mb) (hbb : ∀ x : Str, x ≠ "__name__" → mb x = bootBuiltins x) (hlim : s₁.heap.NoLimit) (hg : s₁.gens = #[])
    (ha : s₁.heap.get? a = some { cls := .type "list", data := .seq vs.toArray }) (hi : IntsAre vs ns) (hl : ns.length ≤ sizeLine) (hr : Room k callerA)
    (F : ∀ base : Heap, K.In base → base.Ns mainGlobals mg → FnOk P w K mg base CX k fa fd [x] sp) (hbind : ∀ (s : Shared) (u : Value), BindsTo s fd ⟨[u], []⟩ [(x, u)])
    (hsp : ∀ H : Hp, Only H → SqL K H a (ns.map V.int) → sp [.ref a] H (fun v _ => v = .bl true) fun _ _ _ => False)
    (hCX : ∀ H e s', CX [] H s₁ (fun _ _ _ => False) e s' → False) :
    codeAny (model P w) callerA (.call (.ref fa) ⟨[.ref a], []⟩) (fun r s' => r = .ok (.ret (.bool true)) ∧ OldK s₁.heap s'.heap ∧ s'.os = s₁.os ∧ AllBare s'.gens) s₁ := by
  have rv := vals_ints hi
  have lenV := hi.length
  -- from an abstract heap in which nothing but the script may be tracked
  have core : ∀ H : Hp, Only H → SqL K H a (ns.map V.int) → HOk P w H s₁.heap → (∀ b, H b ≠ none → b = a) → (H a ≠ none → K.lookup a = none) →
      codeAny (model P w) callerA (.call (.ref fa) ⟨[.ref a], []⟩) (fun r s' => r = .ok (.ret (.bool true)) ∧ OldK s₁.heap s'.heap ∧ s'.os = s₁.os ∧ AllBare s'.gens) s₁ := by
    intro H hO hS hok hA hK
    have base_of : ∀ {b : Addr} {o : Obj}, s₁.heap.get? b = some o → H b = none → (hidT s₁.heap H).get? b = some o := fun e n => hidT_get e n
    have noA : ∀ {b : Addr} {o : Obj} {es : Array DictEntry} {ep : Nat}, s₁.heap.get? b = some o → o.data = .dict es ep → H b = none := fun {b o es ep} e d => by
      cases q : H b with
      | none => rfl
      | some u =>
        have e' : b = a := hA b (by rw [q]; simp)
        subst e'
        rw [ha] at e; cases e
        have d' : Data.seq vs.toArray _ = Data.dict es ep := d
        cases d'
    have nsK : ∀ {b : Addr} {m : Str → Option Value}, s₁.heap.Ns b m → (hidT s₁.heap H).Ns b m := fun {b m} ⟨o, es, ep, e, d, r⟩ => ⟨o, es, ep, base_of e (noA e d), d, r⟩
    have hKb : K.In (hidT s₁.heap H) := fun b o e => base_of (KX b o e) (by
      cases q : H b with
      | none => rfl
      | some u =>
        have e' : b = a := hA b (by rw [q]; simp)
        subst e'
        rw [hK (by rw [q]; simp)] at e; cases e)
    have hM : Mod K mg (hidT s₁.heap H) := ⟨hKb, nsK hns, ⟨mb, nsK hb, hbb⟩, let ⟨mc, h1, h2⟩ := hlim; ⟨mc, nsK h1, h2⟩⟩
    have e0 : Env0 P w K mg (hidT s₁.heap H) callerA [] s₁ H := ⟨rfl, hM, fun b o e => of_hidT e, Nat.le_of_eq (hidT_size _ _), trivial, fun b hb => absurd (show b ∈ ([] : List Addr) from hb) (by simp), hok, .of_eq hg⟩
    refine codeAny_mono ((F _ hKb (nsK hns)).run callerA [] s₁ H ⟨[.ref a], []⟩ [.ref a] [.ref a] _ _ hr e0 (hbind s₁ (.ref a)) (.cons rfl .nil) (hsp H hO hS)) fun r s' h => ?_
    cases r with
    | error e => exact (hCX H e s' h).elim
    | ok fl =>
      cases fl with
      | next => exact False.elim h
      | brk => exact False.elim h
      | cont => exact False.elim h
      | ret u =>
        obtain ⟨v, H', os, bare, un, hok', r', q⟩ := h
        have q' : v = .bl true := q
        subst q'
        obtain rfl : u = Value.bool true := r'
        refine ⟨rfl, OldK.of_keep fun b o e => ?_, os, bare⟩
        cases q : H b with
        | none => exact un.keep b o e q (by intro z; exact absurd (show b ∈ ([] : List Addr) from z) (by simp)) (by simp)
        | some u =>
          rcases hO b with z | ⟨ob, xs, z⟩
          · rw [q] at z; cases z
          · have z2 := un.frzs b ob _ z
            obtain ⟨e1, _⟩ := hok b _ z
            obtain ⟨e2, _⟩ := hok' b _ z2
            rw [e] at e1; cases e1
            exact e2
  cases hk : K.lookup a with
  | some o =>
    -- the script is one of the module's own objects
    have e := KX a o hk
    rw [ha] at e
    cases e
    refine core (fun _ => none) (fun _ => .inl rfl) (.inr ⟨_, vs.toArray, _, hk, rfl, rfl, rfl, by rw [List.size_toArray, lenV]; exact hl, by simpa using rv⟩) (fun b u z => by have z' : (none : Option HO) = some u := z; cases z') (fun b z => absurd rfl z) fun z => absurd rfl z
  | none =>
    refine core (fun b => if b = a then some (.frz { cls := .type "list", data := .seq vs.toArray } (.lst (ns.map V.int))) else none) (fun b => ?_) (.inl (.inr ⟨{ cls := .type "list", data := .seq vs.toArray }, if_pos rfl⟩)) (fun b u z => ?_) (fun b z => ?_) fun _ => hk
    · by_cases hb : b = a
      · exact .inr ⟨_, _, if_pos hb⟩
      · exact .inl (if_neg hb)
    · by_cases hb : b = a
      · have z' := (if_pos hb).symm.trans z
        cases z'
        subst hb
        exact ⟨ha, by rw [List.length_map]; exact hl, vs, _, rv, ha⟩
      · have z' := (if_neg hb).symm.trans z
        cases z'
    · by_cases hb : b = a
      · exact hb
      · exact absurd (if_neg hb) z
end L2

namespace L2
open PySem PySem.Spec PyProof.Rows

abbrev KOf {K : PySem.W.Frag} {h : Heap} (_ : K.In h) : PySem.W.Frag := K

/-- the goal that k_head leaves (case hc), from the law's promise. F gives the function object fd (K's own) once, then the promise over every base -/
theorem walk_of {l : PySem.W.OpenLaw} {n k : Nat} {q : Program} {loose : List Str} {XP : (Str → Option Value) → Heap → Prop} {YP : World → Heap → Prop} {d : DefRec} {K : Params → PySem.W.Frag} {CX : World → CXT} {sp : World → Sp} {x : Str}
    (hn : l.most = some n) (hn2 : n ≤ sizeLine) (hdf : d.params.defaults = []) (hr : Room k callerA)
    (hY : ∀ (w : World) (h : Heap), YP w h → (K w.params).In h)
    (F : ∀ (w : World) (mg : Str → Option Value) (fa : Addr) (h : Heap), (K w.params).In h → h.Ns mainGlobals mg → mg d.name = some (.ref fa) →
      ∃ fd : FuncData, (∀ (s : Shared) (u : Value), BindsTo s fd ⟨[u], []⟩ [(x, u)]) ∧
        ∀ base : Heap, (K w.params).In base → base.Ns mainGlobals mg → FnOk l.prog w (K w.params) mg base (CX w) k fa fd [x] (sp w))
    (hsp : ∀ (w : World) (H : Hp) (a : Addr) (ns : List Int), ns.length ≤ n → Only H → SqL (K w.params) H a (ns.map V.int) → sp w [.ref a] H (fun v _ => v = .bl true) fun _ _ _ => False)
    (hCX : ∀ (w : World) (H : Hp) (s : Shared) (e : Value) (s' : Shared), CX w [] H s (fun _ _ _ => False) e s' → False) :
    PySem.W.WalkO q loose XP YP l.row.toRowW d [] (fun f vs => PySem.call f vs) := by
  refine Att.attach_call hn hdf fun w s₀ s₁ mg mb fa o pm cd doc a vs ns G Y ho hd hcd hmg hobj hints hlen hg => ?_
  have KX := hY w _ Y
  obtain ⟨fd, hb, hF⟩ := F w mg fa _ KX G.T.g hmg
  exact law_call KX G.T.g G.T.b G.T.builtins G.T.nolimit hg hobj hints (Nat.le_trans hlen hn2) hr hF hb (fun H hO hS => hsp w H a ns hlen hO hS) fun H e s' => hCX w H s₁ e s'
end L2

/- THE LAST THEOREM (shape; LID, My.* are yours):
   My.Adr: a structure of the addresses that your layer names (classes, functions); My.Txt K t: a structure (Prop) of the equations over K;
   My.txt_mk : {K} {implicit addresses ..} (e1 : nsIn K mainGlobals "law" = some (some (.ref f))) (e2 : K.lookup f = some ⟨oc, od, .func (fnOf "law" "law" params body scope dV kV doc pm an cdv ct), sl⟩) (e3 : codeIn K cdv "law" = true) .. : ∃ t, My.Txt K t

set_option maxRecDepth 100000 in
set_option maxHeartbeats 0 in
theorem PySem.Challenge.cw_LID_holds : PySem.Challenge.rw_LID.Holds := by
  w_on; o_law; k_head; (case hw => w_witness2)
  k_fill
  refine L2.walk_of (l := PySem.Challenge.rw_LID) (n := 63) (k := 40) (x := "script") (CX := fun w => ..) (sp := fun _ => My.sp_law) rfl (by decide) rfl ⟨rfl, by decide, by decide⟩ (fun w h Y => PySem.W.kIn_of Y) ?F ?S ?C
  case F =>
    intro w mg fa h KX G hmg
    have T : ∃ t, My.Txt (L2.KOf KX) t := by
      dsimp only [L2.KOf]                          -- K must stand as «<heap const> w.params» for k_is
      refine' My.txt_mk ?e1 ?e2 ?e3 ..
      (case e1 => PySem.W.k_is)                    -- in the order: a name -> its address -> its object -> its parts
      (case e2 => PySem.W.k_is)
      ..
    obtain ⟨t, T⟩ := T
    have e0 := hmg.symm.trans (PySem.W.mg_of KX G T.law)
    cases e0                                       -- fa is the law's own address
    exact ⟨_, fun s u => .of_eq rfl, fun base kb nb => My.law_fn T kb nb⟩     -- if «.of_eq rfl» comes too early: refine' ⟨_, ?b, fun base kb nb => My.law_fn T kb nb⟩; exact fun s u => .of_eq rfl
  case S => exact fun w H a ns hl hO hS => ..
  case C => exact ..
(the tactic k_is has no namespace: write k_is) -/

/-! SHORT WORDS over the layer: a def of the text, its body, what a loop and a test want. -/
namespace L2
open PySem PySem.Spec PyProof.Rows

/-! ### the text by places -/
/-- the j-th statement of a class's body -/
def inClass (s : Stmt) (j : Nat) : Stmt := match s with
  | .ClassDef _ _ _ body _ _ _ _ _ _ _ => body.getD j (.Pass ⟨0, 0, 0, 0⟩)
  | _ => .Pass ⟨0, 0, 0, 0⟩
def defArgs (s : Stmt) : Arguments := match s with
  | .FunctionDef _ a _ _ _ _ _ _ _ _ => a
  | _ => { posonlyargs := [], args := [], vararg := none, kwonlyargs := [], kw_defaults := [], kwarg := none, defaults := [] }
def defBody (s : Stmt) : List Stmt := match s with
  | .FunctionDef _ _ b _ _ _ _ _ _ _ => b
  | _ => []
def defScope (s : Stmt) : Scope := match s with
  | .FunctionDef _ _ _ _ _ _ sc _ _ _ => sc
  | _ => { kind := .function, names := [], isGenerator := false, isCoroutine := false }

/-! ### no exception leaves a def -/
abbrev CX0 : CXT := fun _ _ _ _ _ _ => False
abbrev E0 : XK := fun _ _ _ => False
theorem pass0 {X : Cx} : Passes CX0 X E0 := fun _ _ _ _ _ _ _ h => h.elim

/-! ### a def (or method) of the text as it stands behind the top -/
structure Fun (K : PySem.W.Frag) (x qual : Str) (st : Stmt) (f : Addr) (fd : FuncData) : Prop where
  ex : ∃ (oc : Value) (od : Option Addr) (kV doc pm : Value) (an : Option Addr) (cdv ct : Value) (osl : Array (Option Value)),
    fd = PySem.W.fnOf x qual (defArgs st) (defBody st) (defScope st) .none kV doc pm an cdv ct ∧ K.lookup f = some ⟨oc, od, .func fd, osl⟩ ∧ PySem.W.codeIn K cdv qual = true
  kp : PySem.W.keepIn K (.ref f) = true
section
variable {P : Program} {w : World} {K : PySem.W.Frag} {mg : Str → Option Value} {base : Heap}
/-- THE RULE for a def: its body as a term of rules, and the reading of that term -/
theorem Fun.ok {x qual : Str} {st : Stmt} {f : Addr} {fd : FuncData} {N ps : List Str} {k : Nat} {sp : Sp} (F : Fun K x qual st f fd) (S : FnScope N ps (defScope st)) (len : ∀ vs H Q E, sp vs H Q E → vs.length = ps.length)
    (hbody : ∀ (cdv : Value) (A : Around) (outer : List Env) (s : Shared) (H : Hp) (vs : List V) (Q : VK) (E : XK), Room k (A.deeper (envOfC qual (defScope st) s.heap.objs.size f cdv)) → sp vs H Q E →
      ∃ t, PSs (cxOf CX0 P w K mg base N qual (defScope st) f cdv A outer s H E).nox (defBody st) t ∧ t { nx := fun _ H' => Q .non H', rt := Q } (start N vs) H) : FnOk P w K mg base CX0 (k + 1) f fd ps sp := by
  obtain ⟨oc, od, kV, doc, pm, an, cdv, ct, osl, rfl, lk, hcd⟩ := F.ex
  refine fn_of lk hcd S len fun A outer s H vs Q E hr hsp => ?_
  obtain ⟨t, h, q⟩ := hbody cdv A outer s H vs Q E hr hsp
  exact ⟨t, h.nox, q⟩
/-- how its arguments bind (no defaults): h is «fun _ _ _ _ _ _ us hl => match us, hl with | [_, _], _ => rfl», one _ a parameter -/
theorem Fun.binds {x qual : Str} {st : Stmt} {f : Addr} {fd : FuncData} {ps : List Str} (F : Fun K x qual st f fd)
    (h : ∀ (kV doc pm : Value) (an : Option Addr) (cdv ct : Value) (us : List Value), us.length = ps.length → bindArgs (PySem.W.fnOf x qual (defArgs st) (defBody st) (defScope st) .none kV doc pm an cdv ct) ⟨us, []⟩ = pure (ps.zip us)) : Binds K fd ps [] := by
  obtain ⟨oc, od, kV, doc, pm, an, cdv, ct, osl, rfl, lk, hcd⟩ := F.ex
  exact .all (h kV doc pm an cdv ct)
theorem fun_mk {x qual : Str} {st : Stmt} {f : Addr} {oc : Value} {od an : Option Addr} {osl : Array (Option Value)} {kV doc pm cdv ct : Value} (l : K.lookup f = some ⟨oc, od, .func (PySem.W.fnOf x qual (defArgs st) (defBody st) (defScope st) .none kV doc pm an cdv ct), osl⟩)
    (c : PySem.W.codeIn K cdv qual = true) (k : PySem.W.keepIn K (.ref f) = true) : Fun K x qual st f (PySem.W.fnOf x qual (defArgs st) (defBody st) (defScope st) .none kV doc pm an cdv ct) := ⟨⟨oc, od, kV, doc, pm, an, cdv, ct, osl, rfl, l, c⟩, k⟩
end
theorem small1000 {n : Nat} (h : n ≤ 1000) : n < sizeLine := Nat.lt_of_le_of_lt h (by decide)

/-! ### expressions in short: the name that stands in the i-th slot -/
section
variable {X : Cx}
theorem pv (i : Nat) {x : Str} {pos : Pos} (hN : X.N[i]? = some x := by rfl) (hv : Vis X.env.scope x := by first | exact Or.inl rfl | exact Or.inr (Or.inl rfl) | exact Or.inr (Or.inr rfl)) (hd : (x == ("__debug__" : Str)) = false := by decide)
    (hcd : (x == ("__classdict__" : Str)) = false := by decide) : PE X (.Name x pos) (tVar i) := pe_var hN hv hd hcd
end

/-! ### tests -/

/-! ### heaps -/
/-- all that was tracked is as it was -/
def Same (H H' : Hp) : Prop := ∀ b o, H b = some o → H' b = some o
theorem Same.refl (H : Hp) : Same H H := fun _ _ h => h
theorem Same.trans {H H1 H2 : Hp} (a : Same H H1) (b : Same H1 H2) : Same H H2 := fun c o h => b c o (a c o h)
theorem Same.free {H H' : Hp} (e : Same H H') {l : Addr} (h : H' l = Option.none) : H l = Option.none := by
  cases q : H l with
  | none => rfl
  | some o =>
    rw [e l o q] at h
    cases h
theorem Same.seq {K : PySem.W.Frag} {H H' : Hp} {a : Addr} {xs : List V} (e : Same H H') (h : SqL K H a xs) : SqL K H' a xs := by
  rcases h with (h | ⟨o, h⟩) | h
  · exact .inl (.inl (e _ _ h))
  · exact .inl (.inr ⟨o, e _ _ h⟩)
  · exact .inr h

end L2
set_option Elab.async false
set_option linter.all false
set_option maxRecDepth 100000
set_option maxHeartbeats 4000000
namespace L2
open PySem PySem.Spec PyProof.Rows

/-- the context of a list comprehension's block: s₀, H₀ behind the new list -/
def cxC (X : Cx) (N : List Str) (scope : Scope) (cl : List (Str × Addr)) (s₀ : Shared) (H₀ : Hp) (ex : List Addr) : Cx :=
  { X with N := N, s₀ := s₀, H₀ := H₀, env := compEnvC scope cl s₀.heap.objs.size X.env, outer := X.stack, ex := ex, fn := fun _ => false, pn := [], xe := fun _ _ => False }

/-- ys: the names that the block takes from its def; js: their places there -/
structure CompScope (X : Cx) (x : Str) (ys : List Str) (js : List Nat) (scope : Scope) (cl : List (Str × Addr)) : Prop where
  clos : closureFor scope X.env = pure cl
  kind : scope.kind = .function
  nocell : ∀ y ∈ scope.names, y.2 ≠ .cell
  names : ∀ y ∈ scope.names, y.2 = .local → scope.names.lookup y.1 = some .local
  tgt : scope.names.lookup x = some .local
  nd : (x :: ys).Nodup
  sub : ∀ p ∈ cl, X.env.cells.lookup p.1 = some p.2
  has : ∀ p ∈ (relabel scope X.env).names, p.2 = .cell ∨ p.2 = .free → p.1 ∈ cl.map (·.1)
  fr : ∀ (i : Nat) (y : Str), ys[i]? = some y → ∃ j, js[i]? = some j ∧ X.N[j]? = some y ∧ (X.env.kindOf y = some .cell ∨ X.env.kindOf y = some .free) ∧ ((relabel scope X.env).names.lookup y = some .cell ∨ (relabel scope X.env).names.lookup y = some .free)
  len : js.length = ys.length

theorem lookup_of_key {cl : List (Str × Addr)} : ∀ {y : Str}, y ∈ cl.map (·.1) → ∃ c, cl.lookup y = some c := by
  induction cl with
  | nil => intro y h; simp at h
  | cons p r ih =>
    intro y h
    rw [List.lookup_cons]
    cases e : y == p.1 with
    | true => exact ⟨p.2, rfl⟩
    | false =>
      rw [List.map_cons, List.mem_cons] at h
      rcases h with h | h
      · rw [h] at e; simp at e
      · exact ih h

/-- the tests of a clause -/
def PTs (X : Cx) (ifs : List Expr) (t : TT) : Prop :=
  ∀ (pins : List (Addr × Obj)) (s : Shared) (σ : St) (H : Hp) (Q : Bool → Hp → Prop), Inv X pins σ H s → t σ H Q →
    wpAny (model X.prog X.w) X.A (forIn ifs true fun c r => if r = true then do let ok ← isTrue c X.env (eval c X.env); pure (ForInStep.yield ok) else pure (ForInStep.yield r)) (TP X pins σ Q) X.xe s
def tNoTest : TT := fun _ H Q => Q true H
theorem pts_nil {X : Cx} : PTs X [] tNoTest := fun _ _ _ H _ I h => wpAny_tests_nil ⟨H, I, h⟩
theorem pts_one {X : Cx} {c : Expr} {t : TT} (h : PT X c t) : PTs X [c] t := fun pins s σ H Q I q => wpAny_tests_one (h pins s σ H Q I q)

def frees (σ : St) (js : List Nat) : St := js.map fun j => (σ[j]?).getD none
/-- W: the invariant by the turn, a measure, what stands in the new list -/
def CompW (J : It) (p : Addr) (σ : St) (js : List Nat) (tt : TT) (te : TE) (H1 : Hp) (Q : VK) : Prop :=
  ∃ W : Nat → Nat → List V → Hp → Prop, (∃ m, W 0 m [] (upd H1 p (.lst []))) ∧ ∀ i m acc H, W i m acc H →
    (J.stop i H ∧ Q (.ref p) H) ∨ (J.go i H ∧ ∀ x H', J.yld i H x H' → tt (some x :: frees σ js) H' fun ok H2 =>
      if ok = true then te (some x :: frees σ js) H2 fun y H3 => H3 p = some (.lst acc) ∧ acc.length < sizeLine ∧ ∃ m', m' < m ∧ W (i + 1) m' (acc ++ [y]) (upd H3 p (.lst (acc ++ [y])))
      else ∃ m', m' < m ∧ W (i + 1) m' acc H2)
def tComp (wi : TI) (js : List Nat) (tt : TT) (te : TE) : TE := fun σ H Q => wi σ H fun J H1 => ∀ p, H1 p = none → CompW J p σ js tt te H1 Q

section
variable {X : Cx} {x : Str} {ys : List Str} {js : List Nat} {scope : Scope} {cl : List (Str × Addr)} {pins : List (Addr × Obj)} {σ : St} {H : Hp} {s : Shared}
theorem CompScope.cells (S : CompScope X x ys js scope cl) {y : Str} {c : Addr} (h : cl.lookup y = some c) : X.env.cells.lookup y = some c := S.sub (y, c) (PySem.mem_of_lookup h)

/-- the block's state at its start -/
theorem comp_in (S : CompScope X x ys js scope cl) (I : Inv X pins σ H s) {fp : List Addr} (f : ∀ b ∈ fp, FpOk X pins H b) (fo : ∀ b ∈ fp, b < s.heap.objs.size) {h1 : Heap} {m : Str → Option Value} {t1 : Nat} (hn : h1.Ns s.heap.objs.size m)
    (k : ∀ b o, s.heap.get? b = some o → h1.get? b = some o) :
    Inv (cxC X (x :: ys) scope cl s H fp) (X.pn ++ pins) (none :: frees σ js) H { s with heap := h1, toks := t1 } := by
  have nfs : ∀ b ∈ fp, b ∉ frs X.stack := fun b hb z => (List.mem_cons.mp (I.stkSub b z)).elim (f b hb).2.1 (f b hb).2.2.1
  have kept : ∀ y c, cl.lookup y = some c → ∀ v, s.heap.IsCell c v → h1.IsCell c v := fun y c _ v ⟨o, ho, hd⟩ => ⟨o, k c o ho, hd⟩
  refine ⟨⟨I.ok.mod, S.kind, I.ok.glob, I.ok.blt, Nat.le_refl _, fun y z c e1 e2 => I.ok.inj y z c (S.cells e1) (S.cells e2), fun y hy => ?_, fun y c e _ => absurd e Bool.false_ne_true, I.ok.hd, I.ok.frames, .inl rfl, fun b hb => ⟨?_, fun y c e => (f b hb).2.2.2.2.1 y c (S.cells e)⟩,
      I.bs, Nat.le_trans I.ok.bsz I.sz, fun b o e hb => ?_, nfs, I.stack, I.stkFree⟩,
    I.os.trans ?_, I.bare, Un.kept k, ⟨m, hn, fun i y v e1 e2 e3 => ?_⟩, fun y c e => ?_, I.hok.fresh (Nat.le_refl _), fun y c e => I.freeC y c (S.cells e), fun p hp => ?_, I.hok.kept k, ?_⟩
  · rcases hy with hy | hy
    · exact lookup_of_key (S.has _ (PySem.mem_of_lookup hy) (.inl rfl))
    · exact lookup_of_key (S.has _ (PySem.mem_of_lookup hy) (.inr rfl))
  · exact Nat.ne_of_lt (fo b hb)
  · rcases (f b hb).2.2.2.1 with z | z
    · exact I.ok.noex b o e z
    · exact absurd (Nat.lt_of_lt_of_le (Heap.lt_size e) (Nat.le_trans I.ok.bsz z)) (Nat.lt_irrefl _)
  · exact I.os.symm
  · cases i with
    | zero => cases e2
    | succ i =>
      obtain ⟨j, ej, eN, ek, ek'⟩ := S.fr i y e1
      have es : σ[j]? = some (some v) := by
        have q : (frees σ js)[i]? = some (some v) := e2
        unfold frees at q
        rw [List.getElem?_map, ej] at q
        have q' : (σ[j]?).getD none = some v := Option.some.inj q
        cases e : σ[j]? with
        | none => rw [e] at q'; cases q'
        | some o => rw [e] at q'; cases q'; rfl
      obtain ⟨m0, _, hl⟩ := I.loc
      obtain ⟨u, r, l⟩ := hl j y v eN es (.inr ek)
      rcases l with ⟨l, _⟩ | ⟨_, c, ec, hc⟩
      · rcases ek with ek | ek <;> · rw [ek] at l; cases l
      · have hk : y ∈ cl.map (·.1) := by
          rcases ek' with q | q
          · exact S.has _ (PySem.mem_of_lookup q) (.inl rfl)
          · exact S.has _ (PySem.mem_of_lookup q) (.inr rfl)
        obtain ⟨c', ec'⟩ := lookup_of_key hk
        have e := S.cells ec'
        rw [ec] at e
        cases e
        exact ⟨u, r, .inr ⟨ek', c, ec', kept y c ec' _ hc⟩⟩
  · obtain ⟨v, q⟩ := I.cell y c (S.cells e)
    exact ⟨v, kept y c e v q⟩
  · have hp' : p ∈ X.pn ++ pins := (List.mem_append.mp hp).elim (fun z => absurd (show p ∈ ([] : List (Addr × Obj)) from z) (by simp)) id
    obtain ⟨a, b, c, d, e⟩ := I.pin p hp'
    exact ⟨k _ _ a, b, Nat.ne_of_lt (Heap.lt_size a), fun z => (List.mem_cons.mp (I.stkSub _ z)).elim c d, e⟩
  · show _ = (x :: ys).length
    rw [List.length_cons, List.length_cons]
    unfold frees
    rw [List.length_map, S.len]
/-- behind the block: the def's state -/
theorem comp_out {H1 : Hp} {s1 : Shared} {σ' : St} {pins' : List (Addr × Obj)} {s0 : Shared} {H0 : Hp} (I : Inv X pins σ H0 s0) {fp : List Addr} (f : ∀ b ∈ fp, FpOk X pins H0 b) (U0 : Un (frs X.stack) fp H0 H s0.heap s.heap) (ho : s.os = s0.os)
    (J : Inv (cxC X (x :: ys) scope cl s H fp) pins' σ' H1 s1) : Inv X pins σ H1 s1 := by
  have U1 : Un (frs X.stack) fp H H1 s.heap s1.heap := J.base
  exact I.call' (J.os.trans ho) (U0.trans U1) J.hok J.bare fun b hb => ⟨(f b hb).2.2.2.1, (f b hb).2.1, (f b hb).2.2.2.2.1, (f b hb).2.2.2.2.2⟩

variable {iter elt : Expr} {ifs : List Expr} {px pos : Pos} {wi : TI} {tt : TT} {te : TE}
/-- the loop of the block; R: what is wanted of its end -/
theorem comp_run (S : CompScope X x ys js scope cl) (hc : X.calm = true) (ht : ∀ s₀ H₀ ex, PTs (cxC X (x :: ys) scope cl s₀ H₀ ex) ifs tt) (he : ∀ s₀ H₀ ex, PE (cxC X (x :: ys) scope cl s₀ H₀ ex) elt te)
    {s2 : Shared} {H2 : Hp} {it : Addr} {fp : List Addr} {tn : Nat → Heap → Prop} {J : It} (I2 : Inv X pins σ H2 s2) (T : Turn X.prog X.w X.K (.Name x px) J fp it tn) (st2 : tn 0 s2.heap) (f2 : ∀ b ∈ fp, FpOk X pins H2 b)
    {Q : VK} (q : ∀ p, H2 p = none → CompW J p σ js tt te H2 Q)
    {R : Value → Addr → Result → Shared → Prop}
    (hR : ∀ (p : Addr) (C : Addr) (H' : Hp) (s' : Shared) (m : Str → Option Value), s2.heap.objs.size ≤ C → s'.heap.Ns C m → H' C = none → Inv X pins σ H' s' → Q (.ref p) H' → R (.ref p) C (.ok .next) s') :
    wpAny (model X.prog X.w) X.A (newList []) (fun acc s₃ => wpAny (model X.prog X.w) X.A (newFunctionEnv scope X.env.globals cl [] X.env.qual none .none (some X.env)) (fun cenv s₄ =>
      codeAny (model X.prog X.w) X.A (.compStart (.ListComp elt [⟨.Name x px, iter, ifs, 0⟩] scope pos) 0 (.ref it) acc { cenv with scope := relabel scope X.env }) (R acc cenv.locals) s₄) X.xe s₃) X.xe s2 := by
  refine wpAny_newObj_type (wpAny_newFunctionEnv S.nocell (by intro y hy; simp at hy) (fun h₁ hns₁ hsb₁ => ?_) S.kind)
  have fr2 : H2 s2.heap.objs.size = none := I2.hok.fresh (Nat.le_refl _)
  obtain ⟨W, ⟨m0, w0⟩, turn⟩ := q _ fr2
  have I3 : Inv X pins σ (upd H2 s2.heap.objs.size (.lst [])) { s2 with heap := s2.heap.push { cls := .type "list", dict := none, data := .seq ([] : List Value).toArray } } :=
    I2.laid (t' := s2.toks) (fun b u e => Heap.get?_push_of_some _ e) (Nat.le_refl _) ⟨Nat.zero_le _, [], 0, .nil, Heap.get?_push_size _ rfl⟩
  have U0 : Un (frs X.stack) fp H2 (upd H2 s2.heap.objs.size (.lst [])) s2.heap (s2.heap.push { cls := .type "list", dict := none, data := .seq ([] : List Value).toArray }) :=
    Un.laid (fun b u e => Heap.get?_push_of_some _ e) (Nat.le_refl _) fr2
  have fo : ∀ b ∈ fp, b < s2.heap.objs.size := fun b hb => by
    obtain ⟨o, e, _⟩ := T.obj 0 _ st2 b hb
    exact Heap.lt_size e
  have f3 : ∀ b ∈ fp, FpOk X pins (upd H2 s2.heap.objs.size (.lst [])) b := fun b hb => ⟨by rw [upd_ne (Nat.ne_of_lt (fo b hb))]; exact (f2 b hb).1, (f2 b hb).2⟩
  have hold : ∀ b o, (s2.heap.push { cls := .type "list", dict := none, data := .seq ([] : List Value).toArray }).get? b = some o → h₁.get? b = some o := fun b o e =>
    hsb₁.extBut b o (Nat.ne_of_lt (Heap.lt_size e)) (Heap.get?_push_of_some _ e)
  have fo3 : ∀ b ∈ fp, b < (s2.heap.push { cls := .type "list", dict := none, data := .seq ([] : List Value).toArray }).objs.size := fun b hb => by rw [Heap.size_push]; exact Nat.lt_succ_of_lt (fo b hb)
  have I4 := comp_in (t1 := s2.toks + ([] : List (Str × Value)).length) S I3 f3 fo3 hns₁ hold
  have st4 : tn 0 h₁ := T.keep _ _ _ st2 fun b _ o e => hold b o (Heap.get?_push_of_some _ e)
  have stat : ∀ {H' : Hp}, (∀ b ∈ fp, H' b = none) → ∀ b ∈ fp, FpOk (cxC X (x :: ys) scope cl { s2 with heap := s2.heap.push { cls := .type "list", dict := none, data := .seq ([] : List Value).toArray } } (upd H2 s2.heap.objs.size (.lst [])) fp) (X.pn ++ pins) H' b := fun hn b hb =>
    ⟨hn b hb, Nat.ne_of_lt (fo3 b hb), I4.ok.exfs b hb, .inl hb, fun y c e => (f2 b hb).2.2.2.2.1 y c (S.cells e), fun p hp => (f2 b hb).2.2.2.2.2 p ((List.mem_append.mp hp).elim (fun z => absurd (show p ∈ ([] : List (Addr × Obj)) from z) (by simp)) id)⟩
  have loop : codeAny (model X.prog X.w) X.A (.compLoop (.ListComp elt [⟨.Name x px, iter, ifs, 0⟩] scope pos) 0 (.ref it) (.ref s2.heap.objs.size) (compEnvC scope cl (s2.heap.push { cls := .type "list", dict := none, data := .seq ([] : List Value).toArray }).objs.size X.env))
      (R (.ref s2.heap.objs.size) (s2.heap.push { cls := .type "list", dict := none, data := .seq ([] : List Value).toArray }).objs.size) { s2 with heap := h₁, toks := s2.toks + ([] : List (Str × Value)).length } := by
    refine codeAny_loop rfl (fun n s' => ∃ i acc v0 H', Inv (cxC X (x :: ys) scope cl { s2 with heap := s2.heap.push { cls := .type "list", dict := none, data := .seq ([] : List Value).toArray } } (upd H2 s2.heap.objs.size (.lst [])) fp) (X.pn ++ pins) (v0 :: frees σ js) H' s' ∧ tn i s'.heap ∧ (∀ b ∈ fp, H' b = none) ∧ W i n acc H')
      (fun n s5 hI => ?_) m0 ⟨0, [], none, _, I4, st4, fun b hb => (f3 b hb).1, w0⟩
    show wpAny _ X.A ((compTurn (.ListComp elt [⟨.Name x px, iter, ifs, 0⟩] scope pos) 0 (.ref it) (.ref s2.heap.objs.size) (compEnvC scope cl (s2.heap.push { cls := .type "list", dict := none, data := .seq ([] : List Value).toArray }).objs.size X.env)).onRaise (fun x => do noteFrame x (compEnvC scope cl (s2.heap.push { cls := .type "list", dict := none, data := .seq ([] : List Value).toArray }).objs.size X.env); theTreesLotGoes x)) _ _ s5
    refine wpAny_noted ?_
    rw [compTurn_list]
    obtain ⟨i, acc, v0, H5, I5, st5, fr5, w5⟩ := hI
    refine wpAny_bind (wpAny_standAt (wpAny_bind ?_))
    rcases turn i n acc H5 w5 with ⟨stop, qn⟩ | ⟨go, step⟩
    · refine wpAny_mono (T.done (cxC X (x :: ys) scope cl { s2 with heap := s2.heap.push { cls := .type "list", dict := none, data := .seq ([] : List Value).toArray } } (upd H2 s2.heap.objs.size (.lst [])) fp) rfl rfl rfl hc i _ s5 _ H5 _ I5 (stat fr5) st5 stop) (fun r s6 ⟨hr, I6⟩ => ?_) fun _ _ e => e
      subst hr
      obtain ⟨m, hn, _⟩ := I6.loc
      exact wpAny_pure (hR _ _ H5 s6 m (by rw [Heap.size_push]; exact Nat.le_succ _) hn I6.free (comp_out I2 f2 U0 (by rfl) I6) qn)
    · refine wpAny_mono (T.item (cxC X (x :: ys) scope cl { s2 with heap := s2.heap.push { cls := .type "list", dict := none, data := .seq ([] : List Value).toArray } } (upd H2 s2.heap.objs.size (.lst [])) fp) rfl rfl rfl hc i _ s5 _ H5 _ I5 (stat fr5) st5 go) (fun r s6 ⟨u, hr, h6⟩ => ?_) fun _ _ e => e
      subst hr
      refine wpAny_bind (wpAny_mono h6 (fun _ s7 ⟨v, H7, I7, r7, y7, st7, fr7⟩ => ?_) fun _ _ e => e)
      have I7' := I7.pinned (stat fr7) (T.obj _ _ st7)
      have G : PG (cxC X (x :: ys) scope cl { s2 with heap := s2.heap.push { cls := .type "list", dict := none, data := .seq ([] : List Value).toArray } } (upd H2 s2.heap.objs.size (.lst [])) fp) (.Name x px) (gName 0) :=
        pg_name S.nd rfl (.inl (lookup_relabel_local S.tgt)) (.inr (lookup_relabel_local S.tgt))
      refine wpAny_bind (wpAny_mono (G _ s7 _ H7 v u (fun σ8 H8 => σ8 = some v :: frees σ js ∧ H8 = H7) I7' r7 ⟨rfl, rfl⟩) (fun _ s8 ⟨σ8, H8, I8, e8, e8'⟩ => ?_) fun _ _ e => e.elim)
      subst e8 e8'
      refine wpAny_bind (wpAny_mono (ht _ _ _ _ s8 _ _ _ I8 (step v _ y7)) (fun ok s9 ⟨H9, I9, q9⟩ => ?_) fun _ _ e => e.elim)
      have again : ∀ {acc' : List V} {H10 : Hp} {s10 : Shared}, Inv (cxC X (x :: ys) scope cl { s2 with heap := s2.heap.push { cls := .type "list", dict := none, data := .seq ([] : List Value).toArray } } (upd H2 s2.heap.objs.size (.lst [])) fp) (X.pn ++ pins ++ pinsAt fp s7.heap) (some v :: frees σ js) H10 s10 →
          (∃ m', m' < n ∧ W (i + 1) m' acc' H10) → ∃ m, m < n ∧ ∃ i acc v0 H', Inv (cxC X (x :: ys) scope cl { s2 with heap := s2.heap.push { cls := .type "list", dict := none, data := .seq ([] : List Value).toArray } } (upd H2 s2.heap.objs.size (.lst [])) fp) (X.pn ++ pins) (v0 :: frees σ js) H' s10 ∧ tn i s10.heap ∧ (∀ b ∈ fp, H' b = none) ∧ W i m acc H' := fun {acc' H10 s10} I10 ⟨m', hm, w10⟩ => by
        refine ⟨m', hm, i + 1, acc', some v, H10, I10.unpinned, T.keep _ _ _ st7 fun b hb o e => (I10.pin (b, o) (List.mem_append_right _ (List.mem_append_right _ (mem_pinsAt hb e)))).1, fun b hb => ?_, w10⟩
        obtain ⟨o, e, d⟩ := T.obj _ _ st7 b hb
        exact (I10.pin (b, o) (List.mem_append_right _ (List.mem_append_right _ (mem_pinsAt hb e)))).2.1
      cases ok with
      | false =>
        rw [if_neg Bool.false_ne_true] at q9
        exact wpAny_pure ⟨rfl, again I9 q9⟩
      | true =>
        rw [if_pos rfl] at q9
        refine wpAny_bind (wpAny_bind (wpAny_mono (he _ _ _ _ s9 _ _ _ I9 q9) (fun y s10 ⟨z, H10, I10, r10, e10, l10, w10⟩ => ?_) fun _ _ e => e.elim))
        refine wpAny_bind (wpAny_mono (mt_append (X := cxC X (x :: ys) scope cl { s2 with heap := s2.heap.push { cls := .type "list", dict := none, data := .seq ([] : List Value).toArray } } (upd H2 s2.heap.objs.size (.lst [])) fp) _ s10 _ H10 (.ref s2.heap.objs.size) [z] (.ref s2.heap.objs.size) [y] (fun _ H' => H' = upd H10 s2.heap.objs.size (.lst (acc ++ [z]))) I10 rfl (.cons r10 .nil) ⟨_, acc, z, rfl, rfl, e10, l10, rfl⟩)
          (fun _ s11 ⟨_, H11, I11, _, e11⟩ => ?_) fun _ _ e => e.elim)
        subst e11
        exact wpAny_pure (wpAny_pure ⟨rfl, again I11 w10⟩)
  exact codeAny_compStart_list loop (T.self _ 0 _ _ _ st4 loop)

/-- [elt for x in iter if ..] -/
theorem pe_lcomp (S : CompScope X x ys js scope cl) (hc : X.calm = true) (hi : PI X (.Name x px) iter wi) (ht : ∀ s₀ H₀ ex, PTs (cxC X (x :: ys) scope cl s₀ H₀ ex) ifs tt) (he : ∀ s₀ H₀ ex, PE (cxC X (x :: ys) scope cl s₀ H₀ ex) elt te)
    (hs : ∀ x, foldedSetIterable iter X.env x = pure x := by intro _; rfl) : PE X (.ListComp elt [⟨.Name x px, iter, ifs, 0⟩] scope pos) (tComp wi js tt te) := by
  intro pins s σ H Q I h
  rw [eval_ListComp]
  refine wpAny_comprehension_free (use := none) rfl hs S.clos S.kind S.names (thn (hi pins s σ H _ I h) fun v s1 h1 => thn h1 fun itv s2 h2 => ?_)
  obtain ⟨it, fp, tn, J, H2, e, I2, T, st2, f2, q⟩ := h2
  subst e
  refine comp_run (Q := Q) (R := fun acc C => compPost (model X.prog X.w) X.A X.xe none (EP X pins σ Q) acc C) S hc ht he I2 T st2 f2 q fun p C H' s' m hC hn hf I' q' => ?_
  refine ⟨m, hn, fun h' hb => ⟨.ref p, H', ?_, rfl, q'⟩⟩
  exact I'.turned (it := C) (t' := s'.toks) (fun b o hne e => hb.extBut b o hne e) hf (Nat.ne_of_gt (Nat.lt_of_lt_of_le I2.lt hC)) (.inr (Nat.le_trans I2.sz hC))
    (fun y c e z => by obtain ⟨v, w⟩ := I2.cell y c e; subst z; exact Nat.lt_irrefl _ (Nat.lt_of_lt_of_le w.lt hC)) fun p hp z => by have q := Heap.lt_size (I2.pin p hp).1; rw [z] at q; exact Nat.lt_irrefl _ (Nat.lt_of_lt_of_le q hC)
/-- y = [elt for x in iter if ..], on one line -/
theorem ps_lcomp {i : Nat} {y : Str} {py spos : Pos} (S : CompScope X x ys js scope cl) (hc : X.calm = true) (hi : PI X (.Name x px) iter wi) (ht : ∀ s₀ H₀ ex, PTs (cxC X (x :: ys) scope cl s₀ H₀ ex) ifs tt) (he : ∀ s₀ H₀ ex, PE (cxC X (x :: ys) scope cl s₀ H₀ ex) elt te)
    (hN : X.N.Nodup) (hy : X.N[i]? = some y) (hx : Loc X.env.scope y) (hsw : swapsWith (.ListComp elt [⟨.Name x px, iter, ifs, 0⟩] scope pos) (some (.Name y py)) spos.line X.env = pure true)
    (hf : X.fn y = true ∨ X.env.scope.names.lookup y = some .local := by first | exact .inl rfl | exact .inr rfl | assumption)
    (hs : ∀ x, foldedSetIterable iter X.env x = pure x := by intro _; rfl) : PS X (.Assign [.Name y py] (.ListComp elt [⟨.Name x px, iter, ifs, 0⟩] scope pos) spos) (tAsg (tComp wi js tt te) (gName i)) := by
  intro pins s σ H D I h
  rw [exec_Assign_Name_used _ _ _ _ hsw]
  refine wpAny_bind (wpAny_standAt (wpAny_bind ?_))
  show wpAny _ X.A (do let _ ← comprehension (.ListComp elt [⟨.Name x px, iter, ifs, 0⟩] scope pos) scope X.env _ (newList []) false (eval iter X.env) (some (assign (.Name y py) X.env))) _ _ s
  refine wpAny_bind (wpAny_mono (wpAny_comprehension_free (use := some (assign (.Name y py) X.env)) (Q := fun _ s' => SP X pins D .next s') rfl hs S.clos S.kind S.names
    (thn (hi pins s σ H _ I h) fun v s1 h1 => thn h1 fun itv s2 h2 => ?_)) (fun _ s' hq => wpAny_pure (wpAny_pure hq)) fun _ _ e => e)
  obtain ⟨it, fp, tn, J, H2, e, I2, T, st2, f2, q⟩ := h2
  subst e
  refine comp_run (Q := fun x H1 => gName i x σ H1 D.nx) (R := fun acc C => compPost (model X.prog X.w) X.A X.xe (some (assign (.Name y py) X.env)) (fun _ s' => SP X pins D .next s') acc C) S hc ht he I2 T st2 f2 q fun p C H' s' m hC hn hf' I' q' => ?_
  have neL : C ≠ X.env.locals := Nat.ne_of_gt (Nat.lt_of_lt_of_le I2.lt hC)
  have nfs : C ∉ X.fs := I2.nofs hC
  have hn0 := hn
  obtain ⟨o, es, ep, ho, hd, r⟩ := hn
  have Ip : Inv X (pins ++ [(C, o)]) σ H' s' := I'.pins_of fun p hp => (List.mem_append.mp hp).elim (fun z => I'.pin p (List.mem_append_right _ z)) fun z => by
    have e : p = (C, o) := by simpa using z
    subst e
    exact ⟨ho, hf', neL, nfs, fun v w => by rw [hd] at w; cases w⟩
  show wpAny _ _ (assign (.Name y py) X.env (.ref p)) _ _ s'
  refine thn (pg_name (pos := py) hN hy hx hf _ s' σ H' (.ref p) (.ref p) _ Ip rfl q') fun _ s'' ⟨σ8, H8, I8, q8⟩ => ?_
  have pc := I8.pin (C, o) (List.mem_append_right _ (List.mem_append_right _ (by simp)))
  refine ⟨m, ⟨o, es, ep, pc.1, hd, r⟩, fun h' hb => ⟨σ8, H8, ?_, q8⟩⟩
  have I9 : Inv X pins σ8 H8 s'' := I8.pins_of fun p hp => I8.pin p (List.mem_append_right _ (List.mem_append_left _ hp))
  exact I9.turned (it := C) (t' := s''.toks) (fun b o hne e => hb.extBut b o hne e) pc.2.1 neL (.inr (Nat.le_trans I2.sz hC))
    (fun y c e z => by obtain ⟨v, w⟩ := I2.cell y c e; subst z; exact Nat.lt_irrefl _ (Nat.lt_of_lt_of_le w.lt hC)) fun p hp z => by have q := Heap.lt_size (I2.pin p hp).1; rw [z] at q; exact Nat.lt_irrefl _ (Nat.lt_of_lt_of_le q hC)
end
end L2
set_option Elab.async false
set_option linter.all false
set_option maxRecDepth 100000
set_option maxHeartbeats 4000000
namespace L2
open PySem PySem.Spec PyProof.Rows
section
variable {X : Cx}
/-! ### division by greater numbers -/
def CDivL (i j : Int) : Prop := 0 < j ∧ j < 10 ^ 100
theorem CDivL.log {i j : Int} (h : CDivL i j) : j.natAbs.log2 < 9000 := by
  have h1 : j.natAbs < 10 ^ 100 := by have := h.1; have := h.2; omega
  have h2 : j.natAbs < 2 ^ 400 := Nat.lt_trans h1 (by decide +kernel)
  have h3 : j.natAbs ≠ 0 := by have := h.1; omega
  have := (Nat.log2_lt h3).mpr h2
  omega
theorem op_fdivL : OpR X (binaryOp .FloorDiv) (rI CDivL fun i j => .int (i / j)) := opI fun i j _ _ _ _ _ hc q => by
  rw [← Int.fdiv_eq_ediv_of_nonneg i (Int.le_of_lt hc.1)] at q
  exact floordiv_int (by have := hc.1; omega) q (.inl (PyProof.noPylong_of_log2 hc.log))

/-! ### isinstance(x, T) -/
def rInst (K : PySem.W.Frag) : List V → Hp → VK → Prop := fun xs H Q => ∃ x T t b, xs = [x, .ty T] ∧ TyOf K H x t ∧ PySem.W.kitOne K t (.type T) = some b ∧ Q (.bl b) H
theorem call_isinst : CallR X (.builtin "isinstance") (rInst X.K) := by
  intro pins s σ H xs us Q I r h
  obtain ⟨x, T, t, b, rfl, ty, e, q⟩ := h
  obtain ⟨u, w', rfl, ru, rw'⟩ := vals2 r
  cases (show w' = Value.type T from rw')
  exact isinst_ok I ru ty e fun tk => ⟨.bl b, H, I.tok tk, rfl, q⟩
example (K : PySem.W.Frag) : PySem.W.kitOne K (.type "NoneType") (.type "int") = some false := by rfl
example (K : PySem.W.Frag) : PySem.W.kitOne K (.type "int") (.type "int") = some true := by rfl
example (K : PySem.W.Frag) : PySem.W.kitOne K (.type "tuple") (.type "str") = some false := by rfl
example (K : PySem.W.Frag) : PySem.W.kitOne K (.type "bool") (.type "int") = some true := by rfl
example (K : PySem.W.Frag) : PySem.W.kitOne K (.type "str") (.type "bool") = some false := by rfl

/-! ### over a text -/
def Its (x : Str) : It := ⟨fun i _ => i < x.cps.size, fun i H v H' => H' = H ∧ ∃ c, x.cps[i]? = some c ∧ v = .str ⟨#[c]⟩, fun i _ => x.cps.size ≤ i⟩
theorem turn_str {P : Program} {w : World} {K : PySem.W.Frag} {tg : Expr} {x : Str} {it : Addr} {n : String} {t : Tok} (hn : ["enumerate", "zip", "dict_itemiterator", "dict_reverseitemiterator", "odict_iterator", "itertools.zip_longest", "itertools.pairwise"].contains n = false)
    (W : ∀ A' : Around, A'.handled = none → Walks P w A' it [it] [it] x.cps.size (SignAt x) (fun i h => h.IsStrIter it n x t i))
    (E0 : ∀ (A' : Around) (s : Shared) (Q : Option Value → Shared → Prop) (E : Value → Shared → Prop) (i : Nat), A'.handled = none → s.heap.IsStrIter it n x t i → x.cps.size ≤ i → (∀ h', (∀ b o, b ≠ it → s.heap.get? b = some o → h'.get? b = some o) → Q none { s with heap := h' }) → wpAny (model P w) A' (pyNext (.ref it)) Q E s)
    (S0 : ∀ (A' : Around) (s : Shared) (Q : Value → Shared → Prop) (E : Value → Shared → Prop) (i : Nat), s.heap.IsStrIter it n x t i → Q (.ref it) s → wpAny (model P w) A' (pyIter (.ref it)) Q E s) :
    Turn P w K tg (Its x) [it] it (fun i h => h.IsStrIter it n x t i) where
  mem := by simp
  obj := fun i h st b hb => by
    have e : b = it := by simpa using hb
    subst e
    obtain ⟨o, e, c, d⟩ := st
    exact ⟨o, e, fun v z => by rw [d] at z; cases z⟩
  keep := fun i h h' st k => by
    obtain ⟨o, e, r⟩ := st
    exact ⟨o, k it (by simp) o e, r⟩
  item := by
    intro X hP hw hK hc i pins s σ H E I hf st hg
    subst hP hw hK
    obtain ⟨f0, f1, f2, f3, f4, f5⟩ := hf it (by simp)
    refine (W X.A (I.ok.hd hc)).item i s _ _ hg st fun v h' tk hv st' kk => ?_
    obtain ⟨c, u, hc', rfl⟩ := hv
    have I1 : Inv X pins σ H { s with heap := h', toks := tk } := I.turned (fun b o hb e => kk b o (by simpa using hb) e) f0 f1 f3 f4 f5
    obtain ⟨o, e, cl, d⟩ := id st'
    exact ⟨_, rfl, go_of (s := { s with heap := h', toks := tk }) e cl d hn ⟨.str ⟨#[c]⟩, H, I1, ⟨u, rfl⟩, ⟨rfl, c, hc', rfl⟩, st', fun b hb => (hf b hb).1⟩⟩
  done := by
    intro X hP hw hK hc i pins s σ H E I hf st hg
    subst hP hw hK
    obtain ⟨f0, f1, f2, f3, f4, f5⟩ := hf it (by simp)
    exact E0 X.A s _ _ i (I.ok.hd hc) st hg fun h' eb => ⟨rfl, I.turned (t' := s.toks) (fun b o hb e => eb b o hb e) f0 f1 f3 f4 f5⟩
  self := fun A i s Q E st h => S0 A s Q E i st h
def iStr (tl : TE) : TI := fun σ H R => tl σ H fun x H1 => ∃ z, x = .str z ∧ R (Its z) H1
theorem pi_str {tg l : Expr} {tl : TE} (hl : PE X l tl) : PI X tg l (iStr tl) := by
  intro pins s σ H R I h
  refine thn (hl pins s σ H _ I h) fun v s1 ⟨x, H1, I1, r1, q1⟩ => ?_
  obtain ⟨z, rfl, q⟩ := q1
  obtain ⟨t, rfl⟩ := r1
  have fp : ∀ b ∈ [s1.heap.objs.size], FpOk X pins H1 b := fun b hb => by
    have e : b = s1.heap.objs.size := by simpa using hb
    subst e
    exact I1.fpOk (Nat.le_refl _) (I1.hok.fresh (Nat.le_refl _))
  cases ha : z.cps.all (· < 128)
  · refine wpAny_pyIter_wide ha ?_
    exact ⟨s1.heap.objs.size, [s1.heap.objs.size], _, _, H1, rfl, I1.kept (t' := s1.toks) fun b o e => Heap.get?_push_of_some _ e,
      turn_str (n := "str_iterator") (t := t) (by decide) (fun A' hA => Walks.strWide hA _ z t) (fun A' s Q E i hA st hi hQ => wpAny_pyNext_wide_end hA st (by simpa using hi) fun h' he' => hQ h' fun b o hb e => he' b o hb e) (fun A' s Q E i st hQ => wpAny_pyIter_striter_wide st hQ),
      ⟨_, Heap.get?_push_size _ rfl, rfl, rfl⟩, fp, q⟩
  · refine wpAny_pyIter_ascii ha ?_
    exact ⟨s1.heap.objs.size, [s1.heap.objs.size], _, _, H1, rfl, I1.kept (t' := s1.toks) fun b o e => Heap.get?_push_of_some _ e,
      turn_str (n := "str_ascii_iterator") (t := t) (by decide) (fun A' hA => Walks.strAscii hA _ z t) (fun A' s Q E i hA st hi hQ => wpAny_pyNext_ascii_end hA st (by simpa using hi) fun h' he' => hQ h' fun b o hb e => he' b o hb e) (fun A' s Q E i st hQ => wpAny_pyIter_striter_ascii st hQ),
      ⟨_, Heap.get?_push_size _ rfl, rfl, rfl⟩, fp, q⟩
theorem for_str {z : Str} {g : TG} {tb : TS} {D : Ends} {σ : St} {H : Hp} (Pv : Nat → St → Hp → Prop) (h0 : Pv 0 σ H)
    (hs : ∀ i c σ H, z.cps[i]? = some c → Pv i σ H → g (.str ⟨#[c]⟩) σ H fun σ2 H2 => tb { D with nx := Pv (i + 1), ct := Pv (i + 1), bk := D.nx } σ2 H2) (hd : ∀ σ H, Pv z.cps.size σ H → D.nx σ H) :
    ∃ W : Nat → Nat → St → Hp → Prop, (∃ m, W 0 m σ H) ∧ ∀ i m σ H, W i m σ H →
      ((Its z).stop i H ∧ D.nx σ H) ∨ ((Its z).go i H ∧ ∃ N : St → Hp → Prop, (∀ σ' H', N σ' H' → ∃ m', m' < m ∧ W (i + 1) m' σ' H') ∧ ∀ x H', (Its z).yld i H x H' → g x σ H' fun σ2 H2 => tb { D with nx := N, ct := N, bk := D.nx } σ2 H2) := by
  refine ⟨fun i m σ H => m = z.cps.size - i ∧ i ≤ z.cps.size ∧ Pv i σ H, ⟨z.cps.size, by simp, Nat.zero_le _, h0⟩, ?_⟩
  rintro i m σ H ⟨rfl, hi, p⟩
  by_cases hlt : i < z.cps.size
  · refine .inr ⟨hlt, Pv (i + 1), fun σ' H' p' => ⟨z.cps.size - (i + 1), by omega, rfl, hlt, p'⟩, fun x H' y => ?_⟩
    obtain ⟨e, c, ec, ex⟩ := y
    subst e ex
    exact hs i c σ _ ec p
  · have e : i = z.cps.size := by omega
    subst e
    exact .inl ⟨Nat.le_refl _, hd σ H p⟩

/-! ### range(a, b, c) -/
def Itrs (lo st : Int) (n : Nat) : It := ⟨fun i _ => i < n, fun i H x H' => H' = H ∧ x = .int (lo + i * st), fun i _ => n ≤ i⟩
def iRng3 (ta : TA) : TI := fun σ H R => ta σ H fun vs H1 => ∃ j c : Int, vs = [.int 0, .int j, .int c] ∧ 0 ≤ j ∧ j < 2 ^ 60 ∧ 0 < c ∧ c < 1000 ∧ R (Itrs 0 c ((j + c - 1) / c).toNat) H1

/-! ### sum of a list of ints -/
end
end L2
set_option Elab.async false
set_option linter.all false
set_option maxRecDepth 100000
set_option maxHeartbeats 4000000
namespace L2
open PySem PySem.Spec PyProof.Rows
/-- the signs of x[lo:hi] -/
def cutS (x : Str) (lo hi : Option Int) : Str := ⟨((x.cps.toList.drop (HT.sIx x.length 0 lo)).take (HT.sIx x.length x.length hi - HT.sIx x.length 0 lo)).toArray⟩
theorem pick_nat (l : List Nat) (i k : Nat) : (List.range k).filterMap (fun m => l[i + m]?) = (l.drop i).take k := by
  induction k with
  | zero => simp
  | succ k ih =>
    rw [List.range_succ, List.filterMap_append, ih]
    by_cases h : i + k < l.length
    · have e : l[i + k]? = some l[i + k] := List.getElem?_eq_getElem h
      rw [List.take_add_one]
      simp [List.getElem?_drop, e]
    · have e : l[i + k]? = none := List.getElem?_eq_none (by omega)
      have e2 : ((l.drop i).take (k + 1)) = (l.drop i).take k := by
        rw [List.take_of_length_le (by rw [List.length_drop]; omega), List.take_of_length_le (by rw [List.length_drop]; omega)]
      rw [e2]
      simp [e]
theorem idx_str (lo hi : Option Int) (n : Nat) : Builtin.Str.strSliceIndices lo hi 1 n = (List.range (HT.sIx n n hi - HT.sIx n 0 lo)).map fun k => HT.sIx n 0 lo + k := by
  have c0 : ∀ (v : Int) (d : Nat), (max 0 (min (if v < 0 then v + (n : Int) else v) (n : Int))) = ((HT.sIx n d (some v) : Nat) : Int) := fun v d => by
    rw [← HT.clip_eq v n d]
    by_cases h : v < 0
    · simp only [if_pos h]; omega
    · simp only [if_neg h]; omega
  have key : ∀ a b : Nat, sliceRange (a : Int) (b : Int) 1 = (List.range (b - a)).map fun k => a + k := fun a b => by
    unfold sliceRange
    have e1 : (if (1 : Int) > 0 then (if (a : Int) < (b : Int) then ((b : Int) - (a : Int) + 1 - 1) / 1 else 0) else (if (a : Int) > (b : Int) then ((a : Int) - (b : Int) - 1 - 1) / (-1) else 0)).toNat = b - a := by
      rw [if_pos (by decide)]
      split
      · rw [Int.ediv_one]; omega
      · omega
    show List.map _ (List.range (if (1 : Int) > 0 then (if (a : Int) < (b : Int) then ((b : Int) - (a : Int) + 1 - 1) / 1 else 0) else (if (a : Int) > (b : Int) then ((a : Int) - (b : Int) - 1 - 1) / (-1) else 0)).toNat) = _
    rw [e1]
    refine List.map_congr_left fun k _ => ?_
    show ((a : Int) + 1 * (k : Int)).toNat = a + k
    omega
  unfold Builtin.Str.strSliceIndices
  simp only [show (1 : Int) > 0 by decide, if_true]
  cases lo with
  | none =>
    cases hi with
    | none => exact key 0 n
    | some v => dsimp only; rw [c0 v n]; exact key 0 _
  | some u =>
    cases hi with
    | none => dsimp only; rw [c0 u 0]; exact key _ n
    | some v => dsimp only; rw [c0 u 0, c0 v n]; exact key _ _
theorem slice_cut (x : Str) (lo hi : Option Int) : Txt.slice x lo hi = cutS x lo hi := by
  have h1 := HT.sIx_le x.length 0 (Nat.zero_le _) lo
  have h2 := HT.sIx_le x.length x.length (Nat.le_refl _) hi
  have hn : x.cps.toList.length = x.length := Array.length_toList
  have e : ((Builtin.Str.strSliceIndices lo hi 1 x.length).filterMap (x.cps[·]?)) = (x.cps.toList.drop (HT.sIx x.length 0 lo)).take (HT.sIx x.length x.length hi - HT.sIx x.length 0 lo) := by
    rw [idx_str, List.filterMap_map, ← pick_nat]
    refine congrArg (fun f => List.filterMap f _) ?_
    funext m
    show x.cps[_]? = x.cps.toList[_]?
    rw [Array.getElem?_toList]
  unfold Txt.slice cutS
  split
  · rename_i h
    have hl : (Builtin.Str.strSliceIndices lo hi 1 x.length).length = x.length := by simpa using h
    rw [idx_str, List.length_map, List.length_range] at hl
    have a0 : HT.sIx x.length 0 lo = 0 ∨ x.length = 0 := by omega
    rcases a0 with a0 | a0
    · rw [a0, List.drop_zero, Nat.sub_zero, List.take_of_length_le (by omega)]
    · have en : x.cps.toList = [] := List.eq_nil_of_length_eq_zero (by omega)
      rw [en, List.drop_nil, List.take_nil]
      have : x.cps = #[] := by rw [← Array.toList_inj]; exact en
      rcases x with ⟨c⟩
      rw [show c = #[] from this]
  · rw [e]
theorem cutS_len (x : Str) (lo hi : Option Int) : (cutS x lo hi).length ≤ x.length := by rw [← slice_cut]; exact Txt.slice_le x lo hi
section
variable {X : Cx}
def rSlS : V → Option Int → Option Int → Hp → VK → Prop := fun x lo hi H Q => ∃ z, x = .str z ∧ z.length ≤ sizeLine ∧ Q (.str (cutS z lo hi)) H
theorem sl_str : SlR X rSlS := by
  intro pins s σ H x v vl vu lo hi sl Q I rx hs pl pu h
  obtain ⟨z, rfl, hz, q⟩ := h
  obtain ⟨t, rfl⟩ := rx
  refine ⟨"str", _, F.slot_str_getitem.lookup, typeIs_str _ _ _, ?_⟩
  have main : ∀ (l u : Option (Int × Tok)), vl = partValue l → vu = partValue u → lo = l.map (·.1) → hi = u.map (·.1) → wpAny (model X.prog X.w) X.A (getItem (.str z t) (.ref sl)) (EP X pins σ Q) X.xe s := fun l u e1 e2 e3 e4 => by
    subst e1 e2 e3 e4
    refine wpAny_getItem_str_slice (l := l) (u := u) (st := none) hs rfl (post_val_or_str ⟨Nat.le_trans (Txt.slice_le z _ _) hz, fun t' k => ?_⟩)
    show EP X pins σ Q (.str (Txt.slice z (l.map (·.1)) (u.map (·.1))) t') _
    rw [slice_cut]
    exact ⟨.str _, H, I.tok k, ⟨_, rfl⟩, q⟩
  cases pl with
  | none =>
    cases pu with
    | none => exact main none none rfl rfl rfl rfl
    | int j u => exact main none (some (j, u)) rfl rfl rfl rfl
  | int i t' =>
    cases pu with
    | none => exact main (some (i, t')) none rfl rfl rfl rfl
    | int j u => exact main (some (i, t')) (some (j, u)) rfl rfl rfl rfl
end
end L2
set_option Elab.async false
set_option linter.all false
set_option maxRecDepth 100000
set_option maxHeartbeats 4000000
namespace L2
open PySem PySem.Spec PyProof.Rows
/-! ### a def of the text, and its promise, in one word each -/
structure Dfn (K : PySem.W.Frag) (mg : Str → Option Value) (x : Str) (st : Stmt) (ps : List Str) : Prop where
  ex : ∃ f fd, Fun K x x st f fd ∧ Binds K fd ps [] ∧ mg x = some (.ref f)
structure Fn (P : Program) (w : World) (K : PySem.W.Frag) (mg : Str → Option Value) (base : Heap) (x : Str) (k : Nat) (ps : List Str) (sp : Sp) : Prop where
  ex : ∃ f fd, FnOk P w K mg base CX0 k f fd ps sp ∧ Binds K fd ps [] ∧ PySem.W.keepIn K (.ref f) = true ∧ mg x = some (.ref f)
section
variable {P : Program} {w : World} {K : PySem.W.Frag} {mg : Str → Option Value} {base : Heap} {x : Str} {st : Stmt} {ps N : List Str} {sp sp' : Sp} {k : Nat}
theorem Fn.mono {j : Nat} (F : Fn P w K mg base x j ps sp) (h : j ≤ k) : Fn P w K mg base x k ps sp := by
  obtain ⟨f, fd, a, b⟩ := F.ex
  exact ⟨f, fd, a.mono h, b⟩
/-- THE RULE for a def -/
theorem Dfn.ok (D : Dfn K mg x st ps) (S : FnScope N ps (defScope st)) (len : ∀ vs H Q E, sp vs H Q E → vs.length = ps.length)
    (hbody : ∀ (f : Addr) (cdv : Value) (A : Around) (outer : List Env) (s : Shared) (H : Hp) (vs : List V) (Q : VK) (E : XK), Room k (A.deeper (envOfC x (defScope st) s.heap.objs.size f cdv)) → sp vs H Q E →
      ∃ t, PSs (cxOf CX0 P w K mg base N x (defScope st) f cdv A outer s H E).nox (defBody st) t ∧ t { nx := fun _ H' => Q .non H', rt := Q } (start N vs) H) : Fn P w K mg base x (k + 1) ps sp := by
  obtain ⟨f, fd, F, b, m⟩ := D.ex
  exact ⟨f, fd, F.ok S len (fun cdv A outer s H vs Q E hr h => hbody f cdv A outer s H vs Q E hr h), b, F.kp, m⟩
/-- a promise that asks what can't be -/
theorem Dfn.never (D : Dfn K mg x st ps) (no : ∀ vs H Q E, ¬ sp vs H Q E) : Fn P w K mg base x k ps sp := by
  obtain ⟨f, fd, F, b, m⟩ := D.ex
  exact ⟨f, fd, ⟨fun vs H Q E h => absurd h (no vs H Q E), fun A outer s H args us vs Q E _ _ _ _ h => absurd h (no vs H Q E)⟩, b, F.kp, m⟩
end
section
variable {X : Cx} {x : Str} {ps : List Str} {sp : Sp} {k k' : Nat} {e : Expr} {es : List Expr} {t : TA} {p pos : Pos}
theorem pe_fn (F : Fn X.prog X.w X.K X.mg X.base x k ps sp) (hr : Room k' X.A) (hle : k ≤ k') (hg : Gl X x) (ha : PA X (e :: es) t) (hd : (x == ("__debug__" : Str)) = false := by decide)
    (he : starEach (e :: es) X.env = (false, eval e X.env) :: starEach es X.env := by rfl) (hpl : ∀ pos, (backTo pos (starEach es X.env)).any (·.1) = false := by intro _; rfl) : PE X (.Call (.Name x p) (e :: es) [] pos) (tCall sp [] E0 t) := by
  obtain ⟨f, fd, a, b, kp, m⟩ := F.ex
  exact pe_call a (hr.mono hle) hg m kp b .nil pass0 ha hd he (hpl _)
end
/-! ### is True, is False -/
section
variable {X : Cx}
theorem op_isB : OpR X (compareOp .Is) (fun x y H Q => ∃ a b, x = .bl a ∧ y = .bl b ∧ Q (.bl (decide (a = b))) H) := by
  intro pins s σ H x y v u Q I rx ry h
  obtain ⟨a, b, rfl, rfl, q⟩ := h
  cases (show v = Value.bool a from rx)
  cases (show u = Value.bool b from ry)
  have e : decide (a = b) = (Value.bool a == Value.bool b) := by cases a <;> cases b <;> rfl
  rw [e] at q
  exact wpAny_pure ⟨.bl _, H, I, rfl, q⟩
end
end L2

namespace Pv
open PySem L2
/-! ### things -/
inductive Th where
  | non
  | int (i : Int)
  | str (x : Str)
  | tup (ts : List Th)
mutual
def nodes : Th → Nat
  | .non => 1
  | .int _ => 1
  | .str _ => 1
  | .tup ts => 1 + nodesL ts
def nodesL : List Th → Nat
  | [] => 0
  | t :: r => nodes t + nodesL r
end
mutual
def dep : Th → Nat
  | .non => 0
  | .int _ => 0
  | .str _ => 0
  | .tup ts => depL ts + 1
def depL : List Th → Nat
  | [] => 0
  | t :: r => max (dep t) (depL r)
end
def Sign (c : Nat) : Prop := 32 ≤ c ∧ c ≤ 126 ∧ c ≠ 37
def TxtOk (x : Str) : Prop := x.length ≤ 60 ∧ ∀ c ∈ x.cps.toList, Sign c
mutual
def Wf : Th → Prop
  | .non => True
  | .int i => -(10 ^ 30) ≤ i ∧ i ≤ 10 ^ 30
  | .str x => TxtOk x
  | .tup ts => ts.length ≤ 40 ∧ WfL ts
def WfL : List Th → Prop
  | [] => True
  | t :: r => Wf t ∧ WfL r
end
theorem WfL.get : ∀ {ts : List Th} {i : Nat} {t : Th}, WfL ts → ts[i]? = some t → Wf t
  | [], _, _, _, e => by simp at e
  | u :: r, 0, t, h, e => by simp at e; subst e; exact h.1
  | u :: r, i + 1, t, h, e => WfL.get (i := i) h.2 (by simpa using e)
theorem WfL.snoc : ∀ {ts : List Th} {t : Th}, WfL ts → Wf t → WfL (ts ++ [t])
  | [], _, _, h => ⟨h, trivial⟩
  | _ :: _, _, h, h' => ⟨h.1, WfL.snoc h.2 h'⟩
theorem nodesL_snoc : ∀ (ts : List Th) (t : Th), nodesL (ts ++ [t]) = nodesL ts + nodes t
  | [], t => by simp [nodesL]
  | u :: r, t => by
    have := nodesL_snoc r t
    show nodes u + nodesL (r ++ [t]) = nodes u + nodesL r + nodes t
    omega
theorem depL_snoc : ∀ (ts : List Th) (t : Th), depL (ts ++ [t]) = max (depL ts) (dep t)
  | [], t => by simp [depL]
  | u :: r, t => by
    have := depL_snoc r t
    show max (dep u) (depL (r ++ [t])) = max (max (dep u) (depL r)) (dep t)
    rw [this, Nat.max_assoc]
theorem depL_get : ∀ {ts : List Th} {i : Nat} {t : Th}, ts[i]? = some t → dep t ≤ depL ts
  | [], _, _, e => by simp at e
  | u :: r, 0, t, e => by simp at e; subst e; exact Nat.le_max_left _ _
  | u :: r, i + 1, t, e => Nat.le_trans (depL_get (i := i) (by simpa using e)) (Nat.le_max_right _ _)

/-! ### a thing in the heap -/
inductive Rep (H : Hp) : Th → V → Prop where
  | non : Rep H .non .non
  | int (i : Int) : Rep H (.int i) (.int i)
  | str (x : Str) : Rep H (.str x) (.str x)
  | tup {a : Addr} {xs : List V} {ts : List Th} (e : H a = some (.tup xs)) (l : xs.length = ts.length) (h : ∀ (i : Nat) (x : V) (t : Th), xs[i]? = some x → ts[i]? = some t → Rep H t x) : Rep H (.tup ts) (.ref a)
/-- tuples stay -/
def Tups (H H' : Hp) : Prop := ∀ b xs, H b = some (.tup xs) → H' b = some (.tup xs)
theorem Rep.keep {H H' : Hp} {t : Th} {v : V} (r : Rep H t v) (k : Tups H H') : Rep H' t v := by
  induction r with
  | non => exact .non
  | int i => exact .int i
  | str x => exact .str x
  | tup e l h ih => exact .tup (k _ _ e) l ih
/-- all but what stands at ws stays -/
def Frm (ws : List Addr) (H H' : Hp) : Prop := ∀ b o, b ∉ ws → H b = some o → H' b = some o
theorem Frm.refl {ws : List Addr} {H : Hp} : Frm ws H H := fun _ _ _ h => h
theorem Frm.trans {ws : List Addr} {H H1 H2 : Hp} (a : Frm ws H H1) (b : Frm ws H1 H2) : Frm ws H H2 := fun c o n h => b c o n (a c o n h)
theorem Frm.mono {ws ws' : List Addr} {H H1 : Hp} (a : Frm ws H H1) (h : ∀ b ∈ ws, b ∈ ws') : Frm ws' H H1 := fun c o n e => a c o (fun z => n (h c z)) e
theorem Frm.new {ws : List Addr} {H : Hp} {p : Addr} {o : HO} (h : H p = none) : Frm ws H (upd H p o) := fun b u _ q => by rw [upd_ne (ne_of_none q h)]; exact q
theorem Frm.upd {ws : List Addr} {H : Hp} {p : Addr} {o : HO} (h : p ∈ ws) : Frm ws H (upd H p o) := fun b u n q => by rw [upd_ne (fun z => n (by rw [z]; exact h))]; exact q
theorem Frm.same {H H' : Hp} (a : Frm [] H H') : Same H H' := fun b o h => a b o (by simp) h
theorem Frm.of {ws : List Addr} {H H' : Hp} (a : Same H H') : Frm ws H H' := fun b o _ h => a b o h
theorem Frm.at {ws : List Addr} {H H' : Hp} {b : Addr} {o : HO} (a : Frm ws H H') (h : H b = some o) (n : b ∉ ws) : H' b = some o := a b o n h
/-- no tuple at ws -/
def NoT (ws : List Addr) (H : Hp) : Prop := ∀ b ∈ ws, ∀ xs, H b ≠ some (.tup xs)
theorem Frm.tups {ws : List Addr} {H H' : Hp} (a : Frm ws H H') (n : NoT ws H) : Tups H H' := fun b xs e => a b _ (fun z => n b z xs e) e
theorem Same.tups {H H' : Hp} (a : Same H H') : Tups H H' := fun b xs e => a b _ e
theorem Tups.trans {H H1 H2 : Hp} (a : Tups H H1) (b : Tups H1 H2) : Tups H H2 := fun c xs e => b c xs (a c xs e)
theorem Tups.upd {H : Hp} {p : Addr} {o : HO} (h : ∀ xs, H p ≠ some (.tup xs)) : Tups H (upd H p o) := fun b xs e => by rw [upd_ne (fun z => h xs (by rw [← z]; exact e))]; exact e
theorem Tups.new {H : Hp} {p : Addr} {o : HO} (h : H p = none) : Tups H (L2.upd H p o) := Tups.upd fun xs e => by rw [h] at e; cases e
/-- the row of a script's cell -/
def RowOk (H : Hp) (row : Addr) : Prop := ∃ a m : Int, H row = some (.lst [.int a, .int m]) ∧ (m = 0 ∨ (m = 1 ∧ 0 ≤ a ∧ a < 536870909))
theorem RowOk.keep {H H' : Hp} {row : Addr} {ws : List Addr} (r : RowOk H row) (f : Frm ws H H') (n : row ∉ ws) : RowOk H' row := by
  obtain ⟨a, m, e, h⟩ := r
  exact ⟨a, m, f row _ n e, h⟩
theorem RowOk.noT {H : Hp} {row : Addr} (r : RowOk H row) (xs : List V) : H row ≠ some (.tup xs) := by
  obtain ⟨a, m, e, h⟩ := r
  rw [e]; intro z; cases z
end Pv
namespace L2
open PySem PySem.Spec PyProof.Rows
section
variable {X : Cx} {x y : Str} {scope : Scope} {j : Nat} {c : Addr}
theorem relabel_mem {env : Env} {p : Str × NameKind} (h : p ∈ (relabel scope env).names) : ∃ q ∈ scope.names, p.1 = q.1 ∧ (p = q ∨ q.2 = .free) := by
  obtain ⟨q, hq, e⟩ := List.mem_map.mp h
  obtain ⟨n, k⟩ := q
  refine ⟨(n, k), hq, ?_⟩
  dsimp only at e
  split at e
  · rename_i hc
    subst e
    refine ⟨rfl, .inr ?_⟩
    have := (Bool.and_eq_true _ _).mp ((Bool.and_eq_true _ _).mp hc).1
    simpa using this.1
  · subst e
    exact ⟨rfl, .inl rfl⟩
theorem CompScope.zero (kind : scope.kind = .function) (nf : ∀ y ∈ scope.names, y.2 ≠ .free) (nc : ∀ y ∈ scope.names, y.2 ≠ .cell) (nm : ∀ y ∈ scope.names, y.2 = .local → scope.names.lookup y.1 = some .local) (tgt : scope.names.lookup x = some .local) :
    CompScope X x [] [] scope [] where
  clos := closureFor_none nf
  kind := kind
  nocell := nc
  names := nm
  tgt := tgt
  nd := by simp
  sub := fun p hp => by simp at hp
  has := fun p hp hk => by
    obtain ⟨q, hq, e, h | h⟩ := relabel_mem hp
    · subst h
      rcases hk with hk | hk
      · exact absurd hk (nc _ hq)
      · exact absurd hk (nf _ hq)
    · exact absurd h (nf _ hq)
  fr := fun i y e => by simp at e
  len := rfl
theorem CompScope.one (clos : closureFor scope X.env = pure [(y, c)]) (kind : scope.kind = .function) (nc : ∀ y ∈ scope.names, y.2 ≠ .cell) (nm : ∀ y ∈ scope.names, y.2 = .local → scope.names.lookup y.1 = some .local) (tgt : scope.names.lookup x = some .local)
    (ne : x ≠ y) (cell : X.env.cells.lookup y = some c) (only : ∀ q ∈ scope.names, q.2 = .free → q.1 = y) (hN : X.N[j]? = some y) (hk : X.env.kindOf y = some .cell ∨ X.env.kindOf y = some .free)
    (hk' : (relabel scope X.env).names.lookup y = some .cell ∨ (relabel scope X.env).names.lookup y = some .free) : CompScope X x [y] [j] scope [(y, c)] where
  clos := clos
  kind := kind
  nocell := nc
  names := nm
  tgt := tgt
  nd := by simp [ne]
  sub := fun p hp => by
    cases List.mem_singleton.mp hp
    exact cell
  has := fun p hp hk => by
    obtain ⟨q, hq, e, h | h⟩ := relabel_mem hp
    · subst h
      rcases hk with hk | hk
      · exact absurd hk (nc _ hq)
      · simp [only _ hq hk]
    · simp [e, only _ hq h]
  fr := fun i z e => by
    cases i with
    | zero => cases e; exact ⟨j, rfl, hN, hk, hk'⟩
    | succ i => simp at e
  len := rfl
end
theorem ifT {c : Bool} {A B : Prop} (h : c = true) (a : A) : if c = true then A else B := by rw [if_pos h]; exact a
theorem ifF {c : Bool} {A B : Prop} (h : c = false) (b : B) : if c = true then A else B := by rw [if_neg (by rw [h]; exact Bool.false_ne_true)]; exact b
theorem ifB {c : Bool} {A B : Prop} (a : c = true → A) (b : c = false → B) : if c = true then A else B := by
  cases c with
  | true => exact ifT rfl (a rfl)
  | false => exact ifF rfl (b rfl)
theorem dec_i {i j : Int} : decide (V.int i = V.int j) = decide (i = j) := by
  by_cases h : i = j
  · subst h; simp
  · rw [decide_eq_false h]; exact decide_eq_false fun z => h (V.int.inj z)
end L2
namespace L2
open PySem PySem.Spec PyProof.Rows
/-! ### within a comprehension's block: the fragment by its name -/
section
variable {X : Cx} {K : PySem.W.Frag}
end
end L2
namespace L2
open PySem PySem.Spec PyProof.Rows
section
variable {X : Cx} {x : Str} {ps : List Str} {sp : Sp} {k k' : Nat} {p pos : Pos}
end
end L2
set_option Elab.async false
set_option linter.all false
set_option maxRecDepth 100000
set_option maxHeartbeats 4000000
namespace Pv
open PySem L2
def top (i : Nat) : Stmt := PySem.Challenge.pw_papervault_k01_what_is_a_thing.main.body.getD i (.Pass ⟨0, 0, 0, 0⟩)
abbrev s_law_cell_at : Stmt := top 14
abbrev s_law_stream : Stmt := top 15
abbrev s_law_take : Stmt := top 16
abbrev s_law_number : Stmt := top 17
abbrev s_law_text : Stmt := top 18
abbrev s_law_thing : Stmt := top 19
theorem sc_law_cell_at : FnScope ["script", "k"] ["script", "k"] (defScope s_law_cell_at) := ⟨rfl, rfl, rfl, by decide +kernel, rfl, by decide +kernel, by decide +kernel⟩
theorem sc_law_stream : FnScope ["cell", "way", "low"] ["cell", "way"] (defScope s_law_stream) := ⟨rfl, rfl, rfl, by decide +kernel, rfl, by decide +kernel, by decide +kernel⟩
theorem sc_law_take : FnScope ["row", "many", "told"] ["row", "many"] (defScope s_law_take) := ⟨rfl, rfl, rfl, by decide +kernel, rfl, by decide +kernel, by decide +kernel⟩
theorem sc_law_number : FnScope ["row", "kind", "number", "k"] ["row"] (defScope s_law_number) := ⟨rfl, rfl, rfl, by decide +kernel, rfl, by decide +kernel, by decide +kernel⟩
theorem sc_law_text : FnScope ["row", "signs", "text", "k"] ["row"] (defScope s_law_text) := ⟨rfl, rfl, rfl, by decide +kernel, rfl, by decide +kernel, by decide +kernel⟩
theorem sc_law_thing : FnScope ["row", "deep", "left", "kind", "pieces", "k"] ["row", "deep", "left"] (defScope s_law_thing) := ⟨rfl, rfl, rfl, by decide +kernel, rfl, by decide +kernel, by decide +kernel⟩
theorem szl {n : Nat} (h : n ≤ 1000) : n ≤ sizeLine := Nat.le_of_lt (small1000 h)
def spCell (K : PySem.W.Frag) : Sp := fun vs H Q _ => ∃ (a : Addr) (ns : List Int) (k : Int), vs = [.ref a, .int k] ∧ SqL K H a (ns.map V.int) ∧ 0 ≤ k ∧ ∀ c : Int, Q (.int c) H
def spStream : Sp := fun vs H Q _ => ∃ c m : Int, vs = [.int c, .int m] ∧ (m = 0 ∨ m = 1) ∧ ∀ (r : Addr) (H' : Hp), Same H H' → RowOk H' r → H r = none → Q (.ref r) H'
def spTake : Sp := fun vs H Q _ => ∃ (row : Addr) (many : Int), vs = [.ref row, .int many] ∧ RowOk H row ∧ 0 < many ∧ many < 10 ^ 100 ∧ ∀ (r : Int) (H' : Hp), 0 ≤ r → r < many → Frm [row] H H' → RowOk H' row → Q (.int r) H'
def spNumber : Sp := fun vs H Q _ => ∃ (row : Addr), vs = [.ref row] ∧ RowOk H row ∧ ∀ (i : Int) (H' : Hp), -(10 ^ 30) ≤ i → i ≤ 10 ^ 30 → Frm [row] H H' → RowOk H' row → Q (.int i) H'
def spText : Sp := fun vs H Q _ => ∃ (row : Addr), vs = [.ref row] ∧ RowOk H row ∧ ∀ (x : Str) (H' : Hp), TxtOk x → Frm [row] H H' → RowOk H' row → Q (.str x) H'
def spThing (n : Nat) : Sp := fun vs H Q _ => ∃ (row left : Addr) (deep b : Int), vs = [.ref row, .int deep, .ref left] ∧ RowOk H row ∧ H left = some (.lst [.int b]) ∧ 1 ≤ b ∧ b ≤ 100 ∧ 0 ≤ deep ∧ deep < n ∧
  ∀ (t : Th) (v : V) (b' : Int) (H' : Hp), Wf t → (dep t : Int) ≤ deep → 0 ≤ b' → (nodes t : Int) + b' = b → Frm [row, left] H H' → RowOk H' row → H' left = some (.lst [.int b']) → Rep H' t v → Q v H'
section
variable {P : Program} {w : World} {K : PySem.W.Frag} {mg : Str → Option Value} {base : Heap}
theorem ok_cell_at (D : Dfn K mg "_law_cell_at" s_law_cell_at ["script", "k"]) (m_len : mg "len" = none) : Fn P w K mg base "_law_cell_at" 1 ["script", "k"] (spCell K) := by
  refine D.ok (k := 0) sc_law_cell_at (fun vs H Q E h => ?_) (fun f cdv A outer s H vs Q E hr h => ?_)
  · obtain ⟨a, ns, k, rfl, _⟩ := h; rfl
  obtain ⟨a, ns, k, rfl, hS, h0, q⟩ := h
  refine ⟨_, (pss_cons (ps_if (pt_cmpR op_lt (pv 1) (pe_callB (call_len_seq) (by rfl) m_len (by rfl) (pa_cons (pv 0) pa_nil)) (nomark _))
  (pss_one (ps_ret (pe_ix ix_list (pv 0) (pv 1) (fun _ _ => rfl))))
  pss_nil)
 (pss_one (ps_ret pe_int))), ?_⟩
  refine ⟨_, rfl, _, rfl, a, _, rfl, .inl hS, _, _, rfl, rfl, _, rfl, ?_⟩
  refine ifB (fun c => ?_) (fun c => ?_)
  · have c' : k < (((ns.map V.int).length : Nat) : Int) := of_decide_eq_true c
    rw [List.length_map] at c'
    have hk : k.toNat < ns.length := by omega
    have ek : k = ((k.toNat : Nat) : Int) := by omega
    have q1 : atI (ns.map V.int) ((k.toNat : Nat) : Int) = some (.int ns[k.toNat]) := atI_nat (by rw [List.getElem?_map, List.getElem?_eq_getElem hk] <;> rfl)
    rw [← ek] at q1
    exact ⟨_, rfl, _, rfl, a, _, _, _, rfl, rfl, hS, q1, q _⟩
  · exact q _
theorem ok_stream (D : Dfn K mg "_law_stream" s_law_stream ["cell", "way"]) : Fn P w K mg base "_law_stream" 1 ["cell", "way"] spStream := by
  refine D.ok (k := 0) sc_law_stream (fun vs H Q E h => ?_) (fun f cdv A outer s H vs Q E hr h => ?_)
  · obtain ⟨c, m, rfl, _⟩ := h; rfl
  obtain ⟨c, m, rfl, hm, q⟩ := h
  refine ⟨_, (pss_cons (ps_if (pt_cmpR op_eq (pv 1) pe_int (nomark _))
  (pss_one (ps_ret (pe_lst (pa_cons (pv 0) (pa_cons pe_int pa_nil)))))
  pss_nil)
 (pss_cons (ps_set (i := 2) sc_law_stream.nd rfl (Or.inl rfl) (pe_op op_mod (pv 0) pe_int))
 (pss_cons (ps_set (i := 2) sc_law_stream.nd rfl (Or.inl rfl) (pe_op op_mod (pe_op op_add (pe_op op_mul (pe_op op_mod (pe_op op_mul (pv 2) (pv 2)) pe_int) (pe_op op_add (pv 2) pe_int)) pe_int) pe_int))
 (pss_one (ps_ret (pe_lst (pa_cons (pv 2) (pa_cons pe_int pa_nil)))))))), ?_⟩
  refine ⟨_, rfl, rfl, _, rfl, ?_⟩
  rcases hm with rfl | rfl
  · refine ifT (by decide) ?_
    refine ⟨_, rfl, (szl (show 2 ≤ 1000 by decide)), fun p hp => ?_⟩
    exact q p _ (Frm.new hp).same ⟨_, _, upd_same, .inl rfl⟩ hp
  · refine ifF (by decide) ?_
    have b0 : 0 ≤ c % 536870909 := Int.emod_nonneg _ (by decide)
    have b1 : c % 536870909 < 536870909 := Int.emod_lt_of_pos _ (by decide)
    generalize hc : c % 536870909 = d at b0 b1
    refine ⟨_, rfl, _, _, rfl, rfl, (show (0 : Int) < 536870909 by decide), ?_⟩
    have e : (V.int (c % 536870909)) = V.int d := by rw [hc]
    show tSeq _ _ _ (List.set _ _ (some (V.int (c % 536870909)))) _
    rw [e]
    have g0 : 0 ≤ d * d % 536870909 := Int.emod_nonneg _ (by decide)
    have g1 : d * d % 536870909 < 536870909 := Int.emod_lt_of_pos _ (by decide)
    refine ⟨_, rfl, _, rfl, _, _, rfl, rfl, .inl ⟨by omega, by omega⟩, _, _, rfl, rfl, (show (0 : Int) < 536870909 by decide), _, rfl, _, _, rfl, rfl, _, _, rfl, rfl, .inl ⟨by omega, by omega⟩, _, _, rfl, rfl, _, _, rfl, rfl, (show (0 : Int) < 536870909 by decide), ?_⟩
    refine ⟨_, rfl, (szl (show 2 ≤ 1000 by decide)), fun p hp => ?_⟩
    exact q p _ (Frm.new hp).same ⟨_, _, upd_same, .inr ⟨rfl, Int.emod_nonneg _ (by decide), Int.emod_lt_of_pos _ (by decide)⟩⟩ hp
theorem ok_take (D : Dfn K mg "_law_take" s_law_take ["row", "many"]) : Fn P w K mg base "_law_take" 1 ["row", "many"] spTake := by
  refine D.ok (k := 0) sc_law_take (fun vs H Q E h => ?_) (fun f cdv A outer s H vs Q E hr h => ?_)
  · obtain ⟨row, many, rfl, _⟩ := h; rfl
  obtain ⟨row, many, rfl, ⟨a, m, e, hm⟩, h0, h1, q⟩ := h
  refine ⟨_, (pss_cons (ps_if (pt_cmpR op_eq (pe_ix ix_list (pv 0) pe_int (fun _ _ => rfl)) pe_int (nomark _))
  (pss_cons (ps_set (i := 2) sc_law_take.nd rfl (Or.inl rfl) (pe_op op_mod (pe_ix ix_list (pv 0) pe_int (fun _ _ => rfl)) (pv 1)))
 (pss_cons (ps_asg (pe_op op_fdivL (pe_ix ix_list (pv 0) pe_int (fun _ _ => rfl)) (pv 1)) (pg_sub (pv 0) pe_int set_list))
 (pss_one (ps_ret (pv 2)))))
  pss_nil)
 (pss_cons (ps_asg (pe_op op_mod (pe_op op_mul (pe_op op_add (pe_ix ix_list (pv 0) pe_int (fun _ _ => rfl)) pe_int) (pe_op op_add (pe_ix ix_list (pv 0) pe_int (fun _ _ => rfl)) pe_int)) pe_int) (pg_sub (pv 0) pe_int set_list))
 (pss_one (ps_ret (pe_op op_mod (pe_op op_add (pe_op op_mul (pe_ix ix_list (pv 0) pe_int (fun _ _ => rfl)) pe_int) pe_int) (pv 1)))))), ?_⟩
  refine ⟨_, rfl, row, _, _, _, rfl, rfl, SqL.of e, rfl, rfl, _, rfl, ?_⟩
  rcases hm with rfl | ⟨rfl, a0, a1⟩
  · refine ifT (by decide) ?_
    refine ⟨_, rfl, row, _, _, _, rfl, rfl, SqL.of e, rfl, _, rfl, _, _, rfl, rfl, h0, ?_⟩
    refine ⟨_, rfl, row, _, _, _, rfl, rfl, SqL.of e, rfl, _, rfl, _, _, rfl, rfl, ⟨h0, h1⟩, _, rfl, row, _, _, _, rfl, rfl, e, rfl, ?_⟩
    exact ⟨_, rfl, q _ _ (Int.emod_nonneg _ (by omega)) (Int.emod_lt_of_pos _ h0) (Frm.upd (by simp)) ⟨_, _, upd_same, .inl rfl⟩⟩
  · refine ifF (by decide) ?_
    refine ⟨_, rfl, row, _, _, _, rfl, rfl, SqL.of e, rfl, _, _, rfl, rfl, _, rfl, row, _, _, _, rfl, rfl, SqL.of e, rfl, _, _, rfl, rfl, _, _, rfl, rfl, .inl ⟨by omega, by omega⟩, _, _, rfl, rfl, (show (0 : Int) < 536870909 by decide), _, rfl, row, _, _, _, rfl, rfl, e, rfl, ?_⟩
    have g0 : 0 ≤ (a + 7919) * (a + 104729) % 536870909 := Int.emod_nonneg _ (by decide)
    have g1 : (a + 7919) * (a + 104729) % 536870909 < 536870909 := Int.emod_lt_of_pos _ (by decide)
    refine ⟨_, rfl, row, _, _, _, rfl, rfl, SqL.of upd_same, rfl, _, _, rfl, rfl, .inl ⟨by omega, by omega⟩, _, _, rfl, rfl, _, rfl, _, _, rfl, rfl, h0, ?_⟩
    exact q _ _ (Int.emod_nonneg _ (by omega)) (Int.emod_lt_of_pos _ h0) (Frm.upd (by simp)) ⟨_, _, upd_same, .inr ⟨rfl, g0, g1⟩⟩
end
end Pv
set_option Elab.async false
set_option linter.all false
set_option maxRecDepth 100000
set_option maxHeartbeats 4000000
namespace Pv
open PySem L2
theorem pm {r : Int} (h0 : 0 ≤ r) (h1 : r < 2) : ∃ s : Int, atI [V.int 1, V.int (-1)] r = some (.int s) ∧ (s = 1 ∨ s = -1) := by
  rcases (show r = 0 ∨ r = 1 by omega) with rfl | rfl
  · exact ⟨1, rfl, .inl rfl⟩
  · exact ⟨-1, rfl, .inr rfl⟩
theorem menu4 {a b c d r : Int} (h0 : 0 ≤ r) (h1 : r < 4) : ∃ s : Int, atI [V.int a, V.int b, V.int c, V.int d] r = some (.int s) ∧ (s = a ∨ s = b ∨ s = c ∨ s = d) := by
  rcases (show r = 0 ∨ r = 1 ∨ r = 2 ∨ r = 3 by omega) with rfl | rfl | rfl | rfl
  · exact ⟨a, rfl, .inl rfl⟩
  · exact ⟨b, rfl, .inr (.inl rfl)⟩
  · exact ⟨c, rfl, .inr (.inr (.inl rfl))⟩
  · exact ⟨d, rfl, .inr (.inr (.inr rfl))⟩
theorem not1 {a b : Addr} (h : a ≠ b) : a ∉ [b] := fun z => h (List.mem_singleton.mp z)
theorem RowOk.neNew {H : Hp} {row p : Addr} (r : RowOk H row) (h : H p = none) : p ≠ row := by
  obtain ⟨a, m, e, _⟩ := r
  exact (ne_of_none e h).symm
theorem RowOk.new {H : Hp} {row p : Addr} {o : HO} (r : RowOk H row) (h : H p = none) : RowOk (upd H p o) row := by
  obtain ⟨a, m, e, k⟩ := r
  exact ⟨a, m, by rw [upd_ne (ne_of_none e h)]; exact e, k⟩
section
variable {P : Program} {w : World} {K : PySem.W.Frag} {mg : Str → Option Value} {base : Heap}
theorem ok_number (D : Dfn K mg "_law_number" s_law_number ["row"]) (F_law_take : Fn P w K mg base "_law_take" 1 ["row", "many"] spTake) (m_range : mg "range" = none) (m_min : mg "min" = none) : Fn P w K mg base "_law_number" 2 ["row"] spNumber := by
  refine D.ok (k := 1) sc_law_number (fun vs H Q E h => ?_) (fun f cdv A outer s H vs Q E hr h => ?_)
  · obtain ⟨row, rfl, _⟩ := h; rfl
  obtain ⟨row, rfl, R0, q⟩ := h
  refine ⟨_, (pss_cons (ps_set (i := 1) sc_law_number.nd rfl (Or.inl rfl) (pe_fn F_law_take hr (by omega) (by rfl) (pa_cons (pv 0) (pa_cons pe_int pa_nil))))
 (pss_cons (ps_if (pt_cmpR op_eq (pv 1) pe_int (nomark _))
  (pss_one (ps_ret (pe_op op_sub (pe_fn F_law_take hr (by omega) (by rfl) (pa_cons (pv 0) (pa_cons pe_int pa_nil))) pe_int)))
  pss_nil)
 (pss_cons (ps_if (pt_cmpR op_eq (pv 1) pe_int (nomark _))
  (pss_one (ps_ret (pe_op op_mul (pe_ix ix_list (pe_lst (pa_cons pe_int (pa_cons (pe_un un_neg pe_int) pa_nil))) (pe_fn F_law_take hr (by omega) (by rfl) (pa_cons (pv 0) (pa_cons pe_int pa_nil))) (fun _ _ => rfl)) (pe_op op_sub (pe_op op_pow pe_int pe_int) (pe_fn F_law_take hr (by omega) (by rfl) (pa_cons (pv 0) (pa_cons pe_int pa_nil)))))))
  pss_nil)
 (pss_cons (ps_if (pt_cmpR op_eq (pv 1) pe_int (nomark _))
  (pss_cons (ps_set (i := 2) sc_law_number.nd rfl (Or.inl rfl) (pe_op op_mul (pe_ix ix_list (pe_lst (pa_cons pe_int (pa_cons (pe_un un_neg pe_int) pa_nil))) (pe_fn F_law_take hr (by omega) (by rfl) (pa_cons (pv 0) (pa_cons pe_int pa_nil))) (fun _ _ => rfl)) (pe_fn F_law_take hr (by omega) (by rfl) (pa_cons (pv 0) (pa_cons (pe_op op_pow pe_int pe_int) pa_nil)))))
 (pss_cons (ps_for PassesOwn.never rfl (pi_range1 rfl m_range (pa_cons (pe_fn F_law_take hr (by omega) (by rfl) (pa_cons (pv 0) (pa_cons pe_int pa_nil))) pa_nil)) (pg_name (i := 3) sc_law_number.nd rfl (Or.inl rfl))
  (pss_one (ps_set (i := 2) sc_law_number.nd rfl (Or.inl rfl) (pe_op op_mul (pv 2) pe_int))))
 (pss_one (ps_ret (pv 2)))))
  pss_nil)
 (pss_one (ps_ret (pe_callB (call_min2 rfl) (by rfl) m_min (by rfl) (pa_cons (pe_op op_pow pe_int pe_int) (pa_cons (pe_op op_sub (pe_op op_add (pe_op op_mul (pe_fn F_law_take hr (by omega) (by rfl) (pa_cons (pv 0) (pa_cons (pe_op op_add (pe_op op_mul pe_int (pe_op op_pow pe_int pe_int)) pe_int) pa_nil))) (pe_op op_pow pe_int pe_int)) (pe_fn F_law_take hr (by omega) (by rfl) (pa_cons (pv 0) (pa_cons (pe_op op_pow pe_int pe_int) pa_nil)))) (pe_op op_pow pe_int pe_int)) pa_nil))))))))), ?_⟩
  refine ⟨_, rfl, row, _, rfl, R0, (show (0 : Int) < 4 by decide), (by decide +kernel), fun kind H1 k0 k1 f1 R1 => ?_⟩
  refine ⟨_, rfl, rfl, _, rfl, ?_⟩
  refine ifB (fun c => ?_) (fun c => ?_)
  · refine ⟨_, rfl, row, _, rfl, R1, (show (0 : Int) < 21 by decide), (by decide +kernel), fun r H2 r0 r1 f2 R2 => ?_⟩
    exact ⟨_, _, rfl, rfl, q _ _ (by omega) (by omega) (f1.trans f2) R2⟩
  refine ⟨_, rfl, rfl, _, rfl, ?_⟩
  refine ifB (fun c => ?_) (fun c => ?_)
  · refine ⟨_, rfl, (szl (show 2 ≤ 1000 by decide)), fun p hp => ?_⟩
    refine ⟨_, rfl, row, _, rfl, R1.new hp, (show (0 : Int) < 2 by decide), (by decide +kernel), fun r H2 r0 r1 f2 R2 => ?_⟩
    obtain ⟨sg, es, hs⟩ := pm r0 r1
    refine ⟨p, _, _, _, rfl, rfl, SqL.of (f2.at upd_same (not1 (R1.neNew hp))), es, ?_⟩
    refine ⟨_, _, rfl, rfl, ⟨by decide, by decide, by decide⟩, _, rfl, row, _, rfl, R2, (show (0 : Int) < 3 by decide), (by decide +kernel), fun r' H3 r0' r1' f3 R3 => ?_⟩
    refine ⟨_, _, rfl, rfl, _, _, rfl, rfl, .inl ⟨by omega, by omega⟩, ?_⟩
    have e30 : (10 : Int) ^ (30 : Int).toNat = 1000000000000000000000000000000 := by decide +kernel
    have b : -(10 ^ 30) ≤ sg * ((10 : Int) ^ (30 : Int).toNat - r') ∧ sg * ((10 : Int) ^ (30 : Int).toNat - r') ≤ 10 ^ 30 := by
      rw [e30]
      rcases hs with rfl | rfl <;> omega
    exact q _ _ b.1 b.2 (((f1.trans (Frm.new hp)).trans f2).trans f3) R3
  refine ⟨_, rfl, rfl, _, rfl, ?_⟩
  refine ifB (fun c => ?_) (fun c => ?_)
  · refine ⟨_, rfl, (szl (show 2 ≤ 1000 by decide)), fun p hp => ?_⟩
    refine ⟨_, rfl, row, _, rfl, R1.new hp, (show (0 : Int) < 2 by decide), (by decide +kernel), fun r H2 r0 r1 f2 R2 => ?_⟩
    obtain ⟨sg, es, hs⟩ := pm r0 r1
    refine ⟨p, _, _, _, rfl, rfl, SqL.of (f2.at upd_same (not1 (R1.neNew hp))), es, ?_⟩
    refine ⟨_, rfl, _, _, rfl, rfl, ⟨by decide, by decide, by decide⟩, row, _, rfl, R2, (by decide +kernel), (by decide +kernel), fun r' H3 r0' r1' f3 R3 => ?_⟩
    have e6 : (10 : Int) ^ (6 : Int).toNat = 1000000 := by decide +kernel
    have r1'' : r' < 1000000 := by rw [← e6]; exact r1'
    refine ⟨_, _, rfl, rfl, .inl ⟨by omega, by omega⟩, ?_⟩
    refine ⟨_, rfl, row, _, rfl, R3, (show (0 : Int) < 25 by decide), (by decide +kernel), fun n H4 n0 n1 f4 R4 => ?_⟩
    refine ⟨_, rfl, by omega, by omega, ?_⟩
    have f04 : Frm [row] H H4 := (((f1.trans (Frm.new hp)).trans f2).trans f3).trans f4
    refine for_range (n := n.toNat) (fun i σ H' => H' = H4 ∧ ∃ (z : Int) (kk : Option V), σ = [some (.ref row), some (.int kind), some (.int z), kk] ∧ -(1000000 * (10 ^ i : Nat) : Int) < z ∧ z < (1000000 * (10 ^ i : Nat) : Int)) ⟨rfl, _, _, rfl, ?_, ?_⟩ ?_ ?_
    · show -(1000000 * ((10 ^ 0 : Nat) : Int)) < sg * r'
      rcases hs with rfl | rfl <;> omega
    · show sg * r' < 1000000 * ((10 ^ 0 : Nat) : Int)
      rcases hs with rfl | rfl <;> omega
    · rintro i σ H' hi ⟨rfl, z, kk, rfl, z0, z1⟩
      refine ⟨_, rfl, _, _, rfl, rfl, .inr ⟨by decide, by decide⟩, rfl, _, _, rfl, ?_, ?_⟩
      · have e : (10 ^ (i + 1) : Nat) = 10 ^ i * 10 := Nat.pow_succ ..
        rw [e]
        omega
      · have e : (10 ^ (i + 1) : Nat) = 10 ^ i * 10 := Nat.pow_succ ..
        rw [e]
        omega
    · rintro σ H' ⟨rfl, z, kk, rfl, z0, z1⟩
      have e : (10 ^ n.toNat : Nat) ≤ 10 ^ 24 := Nat.pow_le_pow_right (by decide) (by omega)
      exact ⟨_, rfl, q _ _ (by omega) (by omega) f04 R4⟩
  · have e15 : (10 : Int) ^ (15 : Int).toNat = 1000000000000000 := by decide +kernel
    have e30 : (10 : Int) ^ (30 : Int).toNat = 1000000000000000000000000000000 := by decide +kernel
    refine ⟨_, _, rfl, rfl, ⟨by decide, by decide, by decide⟩, ?_⟩
    refine ⟨_, rfl, _, _, rfl, rfl, ⟨by decide, by decide, by decide⟩, _, _, rfl, rfl, .inl ⟨by decide, by decide⟩, _, _, rfl, rfl, row, _, rfl, R1, (by decide +kernel), (by decide +kernel), fun r H2 r0 r1 f2 R2 => ?_⟩
    have r1' : r < 2000000000000001 := by
      have z : (2 : Int) * (10 : Int) ^ (15 : Int).toNat + 1 = 2000000000000001 := by decide +kernel
      rw [← z]; exact r1
    refine ⟨_, _, rfl, rfl, ⟨by decide, by decide, by decide⟩, _, _, rfl, rfl, .inl ⟨by omega, by omega⟩, ?_⟩
    refine ⟨_, rfl, _, _, rfl, rfl, ⟨by decide, by decide, by decide⟩, row, _, rfl, R2, (by decide +kernel), (by decide +kernel), fun r' H3 r0' r1' f3 R3 => ?_⟩
    refine ⟨_, _, rfl, rfl, _, _, rfl, rfl, ⟨by decide, by decide, by decide⟩, _, _, rfl, rfl, _, _, rfl, ?_⟩
    have b : ∀ u : Int, u = r * (10 : Int) ^ (15 : Int).toNat + r' - (10 : Int) ^ (30 : Int).toNat → -(10 ^ 30) ≤ (if u < (10 : Int) ^ (30 : Int).toNat then u else (10 : Int) ^ (30 : Int).toNat) ∧ (if u < (10 : Int) ^ (30 : Int).toNat then u else (10 : Int) ^ (30 : Int).toNat) ≤ 10 ^ 30 := by
      intro u hu
      rw [e30] at *
      rw [e15] at hu
      split <;> omega
    exact q _ _ (b _ rfl).1 (b _ rfl).2 ((f1.trans f2).trans f3) R3
end
end Pv
set_option Elab.async false
set_option linter.all false
set_option maxRecDepth 100000
set_option maxHeartbeats 4000000
namespace Pv
open PySem L2
instance decSign (c : Nat) : Decidable (Sign c) := inferInstanceAs (Decidable (32 ≤ c ∧ c ≤ 126 ∧ c ≠ 37))
def SGs : Str := Str.ofString " !\"#$&'()*+,-./0123456789:;<=>?@ABCDEFGHIJKLMNOPQRSTUVWXYZ[\\]^_`" ++ Str.ofString "abcdefghijklmnopqrstuvwxyz{|}~"
theorem SG_len : SGs.cps.toList.length = 94 := by decide +kernel
theorem SG_all : ∀ c ∈ SGs.cps.toList, Sign c := by decide +kernel
theorem SG_at {r : Int} (h0 : 0 ≤ r) (h1 : r < 94) : ∃ c, atI SGs.cps.toList r = some c ∧ Sign c := by
  have hl : r.toNat < SGs.cps.toList.length := by rw [SG_len]; omega
  have er : r = ((r.toNat : Nat) : Int) := by omega
  have q : atI SGs.cps.toList ((r.toNat : Nat) : Int) = some SGs.cps.toList[r.toNat] := atI_nat (List.getElem?_eq_getElem hl)
  rw [← er] at q
  exact ⟨_, q, SG_all _ (List.getElem_mem hl)⟩
theorem str_app (x y : Str) : (x ++ y).cps.toList = x.cps.toList ++ y.cps.toList := by
  show (x.cps ++ y.cps).toList = _
  simp
theorem str_app_len (x y : Str) : (x ++ y).length = x.length + y.length := by
  show (x.cps ++ y.cps).size = x.cps.size + y.cps.size
  simp
section
variable {P : Program} {w : World} {K : PySem.W.Frag} {mg : Str → Option Value} {base : Heap}
theorem ok_text (D : Dfn K mg "_law_text" s_law_text ["row"]) (F_law_take : Fn P w K mg base "_law_take" 1 ["row", "many"] spTake) (m_range : mg "range" = none) : Fn P w K mg base "_law_text" 2 ["row"] spText := by
  refine D.ok (k := 1) sc_law_text (fun vs H Q E h => ?_) (fun f cdv A outer s H vs Q E hr h => ?_)
  · obtain ⟨row, rfl, _⟩ := h; rfl
  obtain ⟨row, rfl, R0, q⟩ := h
  refine ⟨_, (pss_cons (ps_set (i := 1) sc_law_text.nd rfl (Or.inl rfl) pe_str)
 (pss_cons (ps_set (i := 1) sc_law_text.nd rfl (Or.inl rfl) (pe_op op_add_str (pv 1) pe_str))
 (pss_cons (ps_set (i := 2) sc_law_text.nd rfl (Or.inl rfl) pe_str)
 (pss_cons (ps_for PassesOwn.never rfl (pi_range1 rfl m_range (pa_cons (pe_fn F_law_take hr (by omega) (by rfl) (pa_cons (pv 0) (pa_cons (pe_ix ix_list (pe_lst (pa_cons pe_int (pa_cons pe_int (pa_cons pe_int (pa_cons pe_int pa_nil))))) (pe_fn F_law_take hr (by omega) (by rfl) (pa_cons (pv 0) (pa_cons pe_int pa_nil))) (fun _ _ => rfl)) pa_nil))) pa_nil)) (pg_name (i := 3) sc_law_text.nd rfl (Or.inl rfl))
  (pss_one (ps_set (i := 2) sc_law_text.nd rfl (Or.inl rfl) (pe_op op_add_str (pv 2) (pe_ix ix_str (pv 1) (pe_fn F_law_take hr (by omega) (by rfl) (pa_cons (pv 0) (pa_cons pe_int pa_nil))) (fun _ _ => rfl))))))
 (pss_one (ps_ret (pv 2))))))), ?_⟩
  refine ⟨_, rfl, _, _, rfl, rfl, szl (by decide +kernel), ?_⟩
  refine ⟨_, rfl, (szl (show 4 ≤ 1000 by decide)), fun p hp => ?_⟩
  refine ⟨_, rfl, row, _, rfl, R0.new hp, (show (0 : Int) < 4 by decide), (by decide +kernel), fun r H1 r0 r1 f1 R1 => ?_⟩
  obtain ⟨m, em, hm⟩ := menu4 (a := 4) (b := 8) (c := 61) (d := 16) r0 r1
  refine ⟨p, _, _, _, rfl, rfl, SqL.of (f1.at upd_same (not1 (R0.neNew hp))), em, ?_⟩
  refine ⟨row, m, rfl, R1, by omega, by omega, fun n H2 n0 n1 f2 R2 => ?_⟩
  refine ⟨_, rfl, by omega, by omega, ?_⟩
  refine for_range (n := n.toNat) (fun i σ H' => ∃ (x : Str) (kk : Option V), σ = [some (.ref row), some (.str SGs), some (.str x), kk] ∧ x.length = i ∧ (∀ c ∈ x.cps.toList, Sign c) ∧ Frm [row] H H' ∧ RowOk H' row) ⟨Str.ofString "", _, rfl, by decide +kernel, by decide +kernel, ((Frm.new hp).trans f1).trans f2, R2⟩ ?_ ?_
  · rintro i σ H' hi ⟨x, kk, rfl, hl, hs, f3, R3⟩
    refine ⟨_, rfl, _, rfl, _, rfl, row, _, rfl, R3, (show (0 : Int) < 94 by decide), (by decide +kernel), fun u H4 u0 u1 f4 R4 => ?_⟩
    obtain ⟨c, ec, hc⟩ := SG_at u0 u1
    refine ⟨SGs, _, c, rfl, rfl, szl (by decide +kernel), ec, ?_⟩
    refine ⟨_, _, rfl, rfl, szl (show x.length + 1 ≤ 1000 by omega), ?_⟩
    refine ⟨_, _, rfl, by rw [str_app_len, hl]; rfl, fun d hd => ?_, f3.trans f4, R4⟩
    rw [str_app] at hd
    rcases List.mem_append.mp hd with hd | hd
    · exact hs d hd
    · have e : d = c := by simpa using hd
      rw [e]; exact hc
  · rintro σ H' ⟨x, kk, rfl, hl, hs, f3, R3⟩
    exact ⟨_, rfl, q x H' ⟨by omega, hs⟩ f3 R3⟩
theorem ok_thing (D : Dfn K mg "_law_thing" s_law_thing ["row", "deep", "left"]) (F_law_take : Fn P w K mg base "_law_take" 1 ["row", "many"] spTake) (F_law_number : Fn P w K mg base "_law_number" 2 ["row"] spNumber) (F_law_text : Fn P w K mg base "_law_text" 2 ["row"] spText)
    (m_range : mg "range" = none) (m_tuple : mg "tuple" = none) : ∀ n : Nat, Fn P w K mg base "_law_thing" (n + 2) ["row", "deep", "left"] (spThing n)
  | 0 => D.never fun vs H Q E h => by
      obtain ⟨row, left, deep, b, _, _, _, _, _, h1, h2, _⟩ := h
      omega
  | n + 1 => by
    have F_law_thing := ok_thing D F_law_take F_law_number F_law_text m_range m_tuple n
    refine D.ok (k := n + 2) sc_law_thing (fun vs H Q E h => ?_) (fun f cdv A outer s H vs Q E hr h => ?_)
    · obtain ⟨row, left, deep, b, rfl, _⟩ := h; rfl
    obtain ⟨row, left, deep, b, rfl, R0, eL, b1, b2, d0, d1, q⟩ := h
    have hne : left ≠ row := by
      obtain ⟨a, m, e, _⟩ := R0
      exact ne_of eL e (by intro z; cases z)
    refine ⟨_, (pss_cons (ps_asg (pe_op op_sub (pe_ix ix_list (pv 2) pe_int (fun _ _ => rfl)) pe_int) (pg_sub (pv 2) pe_int set_list))
 (pss_cons (ps_set (i := 3) sc_law_thing.nd rfl (Or.inl rfl) (pe_fn F_law_take hr (by omega) (by rfl) (pa_cons (pv 0) (pa_cons pe_int pa_nil))))
 (pss_cons (ps_if (pt_cmpR op_eq (pv 3) pe_int (nomark _))
  (pss_one (ps_ret pe_non))
  pss_nil)
 (pss_cons (ps_if (PW.pt (pw_or (pt_cmpR op_lt (pv 3) pe_int (nomark _)) (pw_or1 (PW.pt (pw_and (pt_cmpR op_gt (pv 3) pe_int (nomark _)) (pw_and1 (PW.pt (pw_or (pt_cmpR op_eq (pv 1) pe_int (nomark _)) (pw_or1 (pt_cmpR op_lt (pe_ix ix_list (pv 2) pe_int (fun _ _ => rfl)) pe_int (nomark _)))))))))))
  (pss_one (ps_ret (pe_fn F_law_number hr (by omega) (by rfl) (pa_cons (pv 0) pa_nil))))
  pss_nil)
 (pss_cons (ps_if (pt_cmpR op_lt (pv 3) pe_int (nomark _))
  (pss_one (ps_ret (pe_fn F_law_text hr (by omega) (by rfl) (pa_cons (pv 0) pa_nil))))
  pss_nil)
 (pss_cons (ps_set (i := 4) sc_law_thing.nd rfl (Or.inl rfl) (pe_lst pa_nil))
 (pss_cons (ps_for PassesOwn.never rfl (pi_range1 rfl m_range (pa_cons (pe_fn F_law_take hr (by omega) (by rfl) (pa_cons (pv 0) (pa_cons (pe_ix ix_list (pe_lst (pa_cons pe_int (pa_cons pe_int (pa_cons pe_int (pa_cons pe_int pa_nil))))) (pe_fn F_law_take hr (by omega) (by rfl) (pa_cons (pv 0) (pa_cons pe_int pa_nil))) (fun _ _ => rfl)) pa_nil))) pa_nil)) (pg_name (i := 5) sc_law_thing.nd rfl (Or.inl rfl))
  (pss_one (ps_if (pt_cmpR op_gt (pe_ix ix_list (pv 2) pe_int (fun _ _ => rfl)) pe_int (nomark _))
  (pss_one (ps_expr (pe_bm PySem.F.plainAttrs_list PySem.F.slot_list_append PySem.F.type_list_append mt_append (pv 4) (pa_cons (pe_fn F_law_thing hr (by omega) (by rfl) (pa_cons (pv 0) (pa_cons (pe_op op_sub (pv 1) pe_int) (pa_cons (pv 2) pa_nil)))) pa_nil))))
  pss_nil)))
 (pss_one (ps_ret (pe_callTy call_tuple_of (by rfl) m_tuple (by rfl) (pa_cons (pv 4) pa_nil))))))))))), ?_⟩
    refine ⟨_, rfl, left, _, _, _, rfl, rfl, SqL.of eL, rfl, _, _, rfl, rfl, _, rfl, left, _, _, _, rfl, rfl, eL, rfl, ?_⟩
    have fL : Frm [row, left] H (upd H left (.lst [.int (b - 1)])) := Frm.upd (by simp)
    have R0' : RowOk (upd H left (.lst [.int (b - 1)])) row := R0.keep (ws := [left]) (Frm.upd (by simp)) (not1 hne.symm)
    have ih1 : ∀ z ∈ [row], z ∈ [row, left] := fun z hz => by rw [List.mem_singleton.mp hz]; simp
    refine ⟨_, rfl, row, _, rfl, R0', (show (0 : Int) < 7 by decide), (by decide +kernel), fun kind H1 k0 k1 f1 R1 => ?_⟩
    have eL1 : H1 left = some (.lst [.int (b - 1)]) := f1.at upd_same (not1 hne)
    have f01 : Frm [row, left] H H1 := fL.trans (f1.mono ih1)
    refine ⟨_, rfl, rfl, _, rfl, ?_⟩
    refine ifB (fun c => ?_) (fun c => ?_)
    · exact q .non _ (b - 1) H1 trivial (by show ((0 : Nat) : Int) ≤ deep; omega) (by omega) (by show ((1 : Nat) : Int) + (b - 1) = b; omega) f01 R1 eL1 .non
    have num : ∀ (D : Ends) (σ : St), True → tCall spNumber [] E0 (tCons (tVar 0) tNil) [some (.ref row), some (.int deep), some (.ref left), some (.int kind), none, none] H1 Q := fun _ _ _ => by
      refine ⟨_, rfl, row, rfl, R1, fun i H2 i0 i1 f2 R2 => ?_⟩
      exact q (.int i) _ (b - 1) H2 ⟨i0, i1⟩ (by show ((0 : Nat) : Int) ≤ deep; omega) (by omega) (by show ((1 : Nat) : Int) + (b - 1) = b; omega) (f01.trans (f2.mono ih1)) R2 (f2.at eL1 (not1 hne)) (.int i)
    refine ⟨_, rfl, _, _, rfl, rfl, _, rfl, ?_⟩
    refine ifB (fun c1 => ?_) (fun c1 => ?_)
    · exact ifT rfl (num ⟨fun _ _ => True, fun _ _ => True, fun _ _ => True, fun _ _ => True⟩ [] trivial)
    refine ⟨_, rfl, _, _, rfl, rfl, _, rfl, ?_⟩
    have txt : kind < 5 → tCall spText [] E0 (tCons (tVar 0) tNil) [some (.ref row), some (.int deep), some (.ref left), some (.int kind), none, none] H1 Q := fun _ => by
      refine ⟨_, rfl, row, rfl, R1, fun x H2 hx f2 R2 => ?_⟩
      exact q (.str x) _ (b - 1) H2 hx (by show ((0 : Nat) : Int) ≤ deep; omega) (by omega) (by show ((1 : Nat) : Int) + (b - 1) = b; omega) (f01.trans (f2.mono ih1)) R2 (f2.at eL1 (not1 hne)) (.str x)
    refine ifB (fun c2 => ?_) (fun c2 => ?_)
    · -- kind > 4
      have k5 : 4 < kind := of_decide_eq_true c2
      refine ⟨_, rfl, rfl, _, rfl, ?_⟩
      refine ifB (fun c3 => ?_) (fun c3 => ?_)
      · exact ifT rfl (num ⟨fun _ _ => True, fun _ _ => True, fun _ _ => True, fun _ _ => True⟩ [] trivial)
      rw [dec_i] at c3
      have dpos : deep ≠ 0 := of_decide_eq_false c3
      refine ⟨_, rfl, left, _, _, _, rfl, rfl, SqL.of eL1, rfl, _, _, rfl, rfl, _, rfl, ?_⟩
      refine ifB (fun c4 => ?_) (fun c4 => ?_)
      · exact num ⟨fun _ _ => True, fun _ _ => True, fun _ _ => True, fun _ _ => True⟩ [] trivial
      have lpos : ¬ (b - 1 < 1) := of_decide_eq_false c4
      refine ⟨_, rfl, _, _, rfl, rfl, _, rfl, ?_⟩
      refine ifF (decide_eq_false (by omega)) ?_
      refine ⟨szl (show 0 ≤ 1000 by decide), fun pl hpl => ?_⟩
      refine ⟨_, rfl, (szl (show 4 ≤ 1000 by decide)), fun p hp => ?_⟩
      refine ⟨_, rfl, row, _, rfl, (R1.new hpl).new hp, (show (0 : Int) < 4 by decide), (by decide +kernel), fun r H2 r0 r1 f2 R2 => ?_⟩
      obtain ⟨m, em, hm⟩ := menu4 (a := 4) (b := 4) (c := 4) (d := 41) r0 r1
      have np : p ≠ row := (R1.new hpl).neNew hp
      refine ⟨p, _, _, _, rfl, rfl, SqL.of (f2.at upd_same (not1 np)), em, ?_⟩
      refine ⟨row, m, rfl, R2, by omega, by omega, fun cnt H3 n0 n1 f3 R3 => ?_⟩
      refine ⟨_, rfl, by omega, by omega, ?_⟩
      have npl : pl ≠ row := R1.neNew hpl
      have npp : pl ≠ p := fun z => by rw [z, upd_same] at hp; cases hp
      have npL : pl ≠ left := (ne_of_none eL1 hpl).symm
      have hp0 : H pl = none := by
        cases e : H pl with
        | none => rfl
        | some o => rw [f01 pl o (by simp [npl, npL]) e] at hpl; cases hpl
      have e3 : H3 pl = some (.lst []) := f3.at (f2.at (by rw [upd_ne npp]; exact upd_same) (not1 npl)) (not1 npl)
      have f03 : Frm [row, left] H H3 := (((f01.trans (Frm.new hpl)).trans (Frm.new hp)).trans (f2.mono ih1)).trans (f3.mono ih1)
      have eL3 : H3 left = some (.lst [.int (b - 1)]) := f3.at (f2.at (by rw [upd_ne (ne_of_none (by rw [upd_ne (ne_of_none eL1 hpl)]; exact eL1) hp), upd_ne (ne_of_none eL1 hpl)]; exact eL1) (not1 hne)) (not1 hne)
      refine for_range (n := cnt.toNat) (fun i σ H' => ∃ (kk : Option V) (xs : List V) (ts : List Th) (b' : Int), σ = [some (.ref row), some (.int deep), some (.ref left), some (.int kind), some (.ref pl), kk] ∧ Frm [row, left] H H' ∧ RowOk H' row ∧
        H' left = some (.lst [.int b']) ∧ H' pl = some (.lst xs) ∧ xs.length = ts.length ∧ ts.length ≤ i ∧ (∀ (j : Nat) (x : V) (t : Th), xs[j]? = some x → ts[j]? = some t → Rep H' t x) ∧ WfL ts ∧ (depL ts : Int) ≤ deep - 1 ∧ 0 ≤ b' ∧ (nodesL ts : Int) + b' = b - 1)
        ⟨_, [], [], b - 1, rfl, f03, R3, eL3, e3, rfl, Nat.le_refl _, fun j x t e => by simp at e, trivial, by show ((0 : Nat) : Int) ≤ deep - 1; omega, by omega, by show ((0 : Nat) : Int) + (b - 1) = b - 1; omega⟩ ?_ ?_
      · rintro i σ H4 hi ⟨kk, xs, ts, b', rfl, f4, R4, eL4, e4, hxl, hti, hrep, hwf, hdep, hb0, hbn⟩
        refine ⟨_, rfl, left, _, _, _, rfl, rfl, SqL.of eL4, rfl, _, _, rfl, rfl, _, rfl, ?_⟩
        refine ifB (fun c5 => ?_) (fun c5 => ?_)
        · have bp : 0 < b' := of_decide_eq_true c5
          refine ⟨_, rfl, .inl ⟨rfl, _, SqL.of e4⟩, _, rfl, _, rfl, _, _, rfl, rfl, _, rfl, row, left, deep - 1, b', rfl, R4, eL4, by omega, by omega, by omega, by omega, fun t v b'' H5 wt dt bp0 bn f5 R5 eL5 rt => ?_⟩
          have e5 : H5 pl = some (.lst xs) := f5.at e4 (by simp [npl, npL])
          refine ⟨pl, xs, v, rfl, rfl, e5, Nat.lt_of_lt_of_le (show xs.length < 1000 by omega) (szl (Nat.le_refl _)), ?_⟩
          have tk : Tups H4 (upd H5 pl (.lst (xs ++ [v]))) := (f5.tups fun z hz ys => by
            rcases List.mem_cons.mp hz with rfl | hz
            · exact R4.noT ys
            · cases List.mem_singleton.mp hz
              rw [eL4]; intro z; cases z).trans (Tups.upd fun ys => by rw [e5]; intro z; cases z)
          have tk5 : Tups H5 (upd H5 pl (.lst (xs ++ [v]))) := Tups.upd fun ys => by rw [e5]; intro z; cases z
          refine ⟨_, xs ++ [v], ts ++ [t], b'', rfl, fun z o nz ez => ?_, ?_, ?_, upd_same, by simp [hxl], by simp; omega, fun j x u ej eu => ?_, hwf.snoc wt, ?_, bp0, ?_⟩
          · rw [upd_ne (ne_of_none ez hp0)]
            exact (f4.trans f5) z o nz ez
          · obtain ⟨a, m, e, k⟩ := R5
            exact ⟨a, m, by rw [upd_ne npl.symm]; exact e, k⟩
          · rw [upd_ne npL.symm]; exact eL5
          · by_cases hj : j < xs.length
            · rw [List.getElem?_append_left hj] at ej
              rw [List.getElem?_append_left (by omega)] at eu
              exact (hrep j x u ej eu).keep tk
            · rw [List.getElem?_append_right (by omega)] at ej eu
              have ej' : j - xs.length = 0 := by
                cases e : j - xs.length with
                | zero => rfl
                | succ k => rw [e] at ej; simp at ej
              rw [ej'] at ej
              rw [show j - ts.length = 0 by omega] at eu
              cases ej
              cases eu
              exact rt.keep tk5
          · rw [depL_snoc]; omega
          · rw [nodesL_snoc]; omega
        · exact ⟨_, xs, ts, b', rfl, f4, R4, eL4, e4, hxl, by omega, hrep, hwf, hdep, hb0, hbn⟩
      · rintro σ H4 ⟨kk, xs, ts, b', rfl, f4, R4, eL4, e4, hxl, hti, hrep, hwf, hdep, hb0, hbn⟩
        refine ⟨_, rfl, pl, _, rfl, .inl ⟨SqL.of e4, fun t ht => ?_⟩⟩
        refine q (.tup ts) _ b' _ ⟨by omega, hwf⟩ ?_ hb0 ?_ (f4.trans (Frm.new ht)) (R4.new ht) (by rw [upd_ne (ne_of_none eL4 ht)]; exact eL4) (.tup upd_same hxl fun j x u ej eu => (hrep j x u ej eu).keep (Tups.new ht))
        · show ((depL ts + 1 : Nat) : Int) ≤ deep
          omega
        · show ((1 + nodesL ts : Nat) : Int) + b' = b
          omega
    · refine ⟨_, rfl, _, _, rfl, rfl, _, rfl, ?_⟩
      have k5 : ¬ (4 < kind) := of_decide_eq_false c2
      exact ifT (decide_eq_true (by omega)) (txt (by omega))
end
end Pv
set_option Elab.async false
set_option linter.all false
set_option maxRecDepth 100000
namespace L2
open PySem PySem.Spec PyProof.Rows

/-! ### lists of pairs as tables -/
section
variable {κ : Type} [DecidableEq κ]
def valV (kvs : List (κ × V)) (k : κ) : Option V := (kvs.find? fun kv => decide (kv.1 = k)).map (·.2)
/-- in its place, or at the end -/
def putK (kvs : List (κ × V)) (k : κ) (v : V) : List (κ × V) :=
  if (kvs.any fun kv => decide (kv.1 = k)) = true then kvs.map (fun kv => if kv.1 = k then (kv.1, v) else kv) else kvs ++ [(k, v)]
def dropK (kvs : List (κ × V)) (k : κ) : List (κ × V) := kvs.filter fun kv => decide (kv.1 ≠ k)

theorem valV_pos {p : κ × V} {r : List (κ × V)} {k : κ} (e : p.1 = k) : valV (p :: r) k = some p.2 := by simp [valV, List.find?_cons, e]
theorem valV_neg {p : κ × V} {r : List (κ × V)} {k : κ} (e : ¬ p.1 = k) : valV (p :: r) k = valV r k := by simp [valV, List.find?_cons, e]
theorem valV_any (k : κ) : ∀ kvs : List (κ × V), (kvs.any fun kv => decide (kv.1 = k)) = (valV kvs k).isSome
  | [] => rfl
  | p :: r => by
    rw [List.any_cons]
    by_cases e : p.1 = k
    · simp only [valV_pos e, decide_eq_true e, Bool.true_or, Option.isSome_some]
    · rw [valV_neg e, decide_eq_false e, Bool.false_or]; exact valV_any k r

theorem RelO.isSome_eq {o : Option V} {u : Option Value} (r : RelO o u) : o.isSome = u.isSome := by
  cases o with
  | none => cases u with
    | none => rfl
    | some _ => exact (show False from r).elim
  | some _ => cases u with
    | none => exact (show False from r).elim
    | some _ => rfl
theorem RelO.getD {o : Option V} {u : Option Value} {d : V} {d' : Value} (r : RelO o u) (rd : RelV d d') : RelV (o.getD d) (u.getD d') := by
  cases o with
  | none => cases u with
    | none => exact rd
    | some _ => exact (show False from r).elim
  | some _ => cases u with
    | none => exact (show False from r).elim
    | some _ => exact r

/-- raw tables of the same keys -/
theorem KV.val {kvs : List (κ × V)} {vs : List (κ × Value)} (r : KV kvs vs) (k : κ) : RelO (valV kvs k) (valueAt vs k) := by
  unfold KV at r
  induction r with
  | nil => exact True.intro
  | @cons p q ps qs h t ih =>
    obtain ⟨h1, h2⟩ := h
    by_cases e : p.1 = k
    · have e' : q.1 = k := h1.symm.trans e
      have b : valueAt (q :: qs) k = some q.2 := by simp [valueAt, List.find?_cons, e']
      rw [valV_pos e, b]; exact h2
    · have e' : ¬ q.1 = k := fun z => e (h1.trans z)
      have b : valueAt (q :: qs) k = valueAt qs k := by simp [valueAt, List.find?_cons, e']
      rw [valV_neg e, b]; exact ih
theorem KV.any {kvs : List (κ × V)} {vs : List (κ × Value)} (r : KV kvs vs) (k : κ) : (kvs.any fun kv => decide (kv.1 = k)) = vs.any fun kv => decide (kv.1 = k) := by
  unfold KV at r
  induction r with
  | nil => rfl
  | cons h t ih => rw [List.any_cons, List.any_cons, ih, h.1]
theorem KV.repl {kvs : List (κ × V)} {vs : List (κ × Value)} (r : KV kvs vs) (k : κ) {y : V} {u : Value} (ry : RelV y u) :
    KV (kvs.map fun kv => if kv.1 = k then (kv.1, y) else kv) (vs.map fun kv => if kv.1 = k then (kv.1, u) else kv) := by
  unfold KV at r ⊢
  induction r with
  | nil => exact .nil
  | @cons p q ps qs h t ih =>
    rw [List.map_cons, List.map_cons]
    refine .cons ?_ ih
    obtain ⟨h1, h2⟩ := h
    by_cases e : p.1 = k
    · rw [if_pos e, if_pos (h1.symm.trans e)]; exact ⟨h1, ry⟩
    · rw [if_neg e, if_neg (fun z => e (h1.trans z))]; exact ⟨h1, h2⟩
theorem KV.put {kvs : List (κ × V)} {vs : List (κ × Value)} (r : KV kvs vs) (k : κ) {y : V} {u : Value} (ry : RelV y u) : KV (putK kvs k y) (stored vs k u) := by
  unfold putK stored
  rw [r.any k]
  by_cases e : (vs.any fun kv => decide (kv.1 = k)) = true
  · rw [if_pos e, if_pos e]; exact r.repl k ry
  · rw [if_neg e, if_neg e]; exact Paired.snoc r ⟨rfl, ry⟩
theorem KV.drop {kvs : List (κ × V)} {vs : List (κ × Value)} (r : KV kvs vs) (k : κ) : KV (dropK kvs k) (without vs k) := by
  unfold KV at r ⊢
  unfold dropK without
  induction r with
  | nil => exact .nil
  | @cons p q ps qs h t ih =>
    obtain ⟨h1, h2⟩ := h
    rw [List.filter_cons, List.filter_cons]
    by_cases e : p.1 = k
    · have a : ¬ decide (p.1 ≠ k) = true := by simp [e]
      have b : ¬ decide (q.1 ≠ k) = true := by simp [h1.symm.trans e]
      rw [if_neg a, if_neg b]; exact ih
    · have e' : ¬ q.1 = k := fun z => e (h1.trans z)
      have a : decide (p.1 ≠ k) = true := by simp [e]
      have b : decide (q.1 ≠ k) = true := by simp [e']
      rw [if_pos a, if_pos b]; exact .cons ⟨h1, h2⟩ ih
theorem KV.keys {kvs : List (κ × V)} {vs : List (κ × Value)} (r : KV kvs vs) : kvs.map (·.1) = vs.map (·.1) := by
  unfold KV at r
  induction r with
  | nil => rfl
  | cons h t ih => rw [List.map_cons, List.map_cons, ih, h.1]
theorem KV.length {kvs : List (κ × V)} {vs : List (κ × Value)} (r : KV kvs vs) : kvs.length = vs.length := Paired.length r
end


/-! ### a tracked dict, its keys ints and texts or tuples of these -/

/-- raw entries of a dict with tuple keys -/
abbrev KT (H : Hp) : List (List Key × V) → List (List Key × Addr × Value) → Prop := Paired fun p q => p.1 = q.1 ∧ H q.2.1 = some (.tup (p.1.map kV)) ∧ RelV p.2 q.2.2
theorem KT.val {H : Hp} {kvs : List (List Key × V)} {xs : List (List Key × Addr × Value)} (r : KT H kvs xs) (k : List Key) : RelO (valV kvs k) ((atKey xs k).map (·.2)) := by
  induction r with
  | nil => exact True.intro
  | @cons p q ps qs h t ih =>
    obtain ⟨h1, _, h2⟩ := h
    by_cases e : p.1 = k
    · have e' : q.1 = k := h1.symm.trans e
      have b : atKey (q :: qs) k = some q.2 := by simp [atKey, List.find?_cons, e']
      rw [valV_pos e, b]; exact h2
    · have e' : ¬ q.1 = k := fun z => e (h1.trans z)
      have b : atKey (q :: qs) k = atKey qs k := by simp [atKey, List.find?_cons, e']
      rw [valV_neg e, b]; exact ih
theorem KT.repl {H : Hp} {kvs : List (List Key × V)} {xs : List (List Key × Addr × Value)} (r : KT H kvs xs) (k : List Key) {y : V} {u : Value} (ry : RelV y u) :
    KT H (kvs.map fun kv => if kv.1 = k then (kv.1, y) else kv) (xs.map (putAt k u)) := by
  induction r with
  | nil => exact .nil
  | @cons p q ps qs h t ih =>
    rw [List.map_cons, List.map_cons]
    refine .cons ?_ ih
    obtain ⟨h1, h2, h3⟩ := h
    unfold putAt
    by_cases e : p.1 = k
    · rw [if_pos e, if_pos (h1.symm.trans e)]; exact ⟨h1, h2, ry⟩
    · rw [if_neg e, if_neg (fun z => e (h1.trans z))]; exact ⟨h1, h2, h3⟩
theorem KT.put {H : Hp} {kvs : List (List Key × V)} {xs : List (List Key × Addr × Value)} (r : KT H kvs xs) (k : List Key) {b : Addr} {y : V} {u : Value} (hb : H b = some (.tup (k.map kV))) (ry : RelV y u) :
    KT H (putK kvs k y) (storedH xs k b u) := by
  have e : (kvs.any fun kv => decide (kv.1 = k)) = (atKey xs k).isSome := by
    rw [valV_any, (r.val k).isSome_eq, Option.isSome_map]
  unfold putK storedH
  rw [e]
  by_cases q : (atKey xs k).isSome = true
  · rw [if_pos q, if_pos q]; exact r.repl k ry
  · rw [if_neg q, if_neg q]; exact Paired.snoc r ⟨rfl, hb, ry⟩
theorem KT.keeps {H H' : Hp} {kvs : List (List Key × V)} {xs : List (List Key × Addr × Value)} (r : KT H kvs xs) (ht : ∀ b ys, H b = some (.tup ys) → H' b = some (.tup ys)) : KT H' kvs xs :=
  Paired.mapP r fun _ _ z => ⟨z.1, ht _ _ z.2.1, z.2.2⟩

section
variable {P : Program} {w : World} {H : Hp} {h : Heap} {a : Addr}
end

/-- what the dict at a holds at the key y -/
def DGet (H : Hp) (a : Addr) (y : V) (r : Option V) : Prop :=
  (∃ kvs k, Rd H a (.dK kvs) ∧ y = kV k ∧ r = valV kvs k) ∨ ∃ kvs k b, Rd H a (.dT kvs) ∧ y = .ref b ∧ H b = some (.tup (k.map kV)) ∧ r = valV kvs k
/-- the heap behind a[y] = v -/
def DPut (H : Hp) (a : Addr) (y v : V) (H' : Hp) : Prop :=
  (∃ kvs k, H a = some (.dK kvs) ∧ y = kV k ∧ kvs.length < sizeLine ∧ H' = upd H a (.dK (putK kvs k v))) ∨
  ∃ kvs k b, H a = some (.dT kvs) ∧ y = .ref b ∧ H b = some (.tup (k.map kV)) ∧ kvs.length < sizeLine ∧ H' = upd H a (.dT (putK kvs k v))
theorem DGet.k {H : Hp} {a : Addr} {kvs : List (Key × V)} {k : Key} (e : H a = some (.dK kvs)) : DGet H a (kV k) (valV kvs k) := .inl ⟨kvs, k, .inl e, rfl, rfl⟩
theorem DGet.t {H : Hp} {a b : Addr} {kvs : List (List Key × V)} {k : List Key} (e : H a = some (.dT kvs)) (eb : H b = some (.tup (k.map kV))) : DGet H a (.ref b) (valV kvs k) := .inr ⟨kvs, k, b, .inl e, rfl, eb, rfl⟩
theorem DPut.k {H : Hp} {a : Addr} {kvs : List (Key × V)} {k : Key} {v : V} (e : H a = some (.dK kvs)) (hl : kvs.length < sizeLine) : DPut H a (kV k) v (upd H a (.dK (putK kvs k v))) := .inl ⟨kvs, k, e, rfl, hl, rfl⟩
theorem DPut.t {H : Hp} {a b : Addr} {kvs : List (List Key × V)} {k : List Key} {v : V} (e : H a = some (.dT kvs)) (eb : H b = some (.tup (k.map kV))) (hl : kvs.length < sizeLine) :
    DPut H a (.ref b) v (upd H a (.dT (putK kvs k v))) := .inr ⟨kvs, k, b, e, rfl, eb, hl, rfl⟩


section
variable {X : Cx} {pins : List (Addr × Obj)} {σ : St} {H : Hp} {s : Shared} {a : Addr} {y v : V} {u r : Value} {o : Option V} {A : Around} {E : Value → Shared → Prop}

theorem Inv.big (I : Inv X pins σ H s) : sysModules < s.heap.objs.size := by
  have h : mainGlobals < s.heap.objs.size := (I.mod.glob.keeps I.bk).lt
  exact Nat.lt_trans (by decide) h

end

section
variable {X : Cx} {pins : List (Addr × Obj)} {σ : St} {H : Hp} {s : Shared} {a : Addr} {kvs : List (Key × V)} {k : Key} {u : Value} {A : Around} {E : Value → Shared → Prop}
end


/-! ### readings and rules -/
/-- the element of a subscription, not a slice -/
def NoSl (i : Expr) : Prop := ∀ ov iv, subscripted i false ov iv = operate [ov, iv] (getItem ov iv)


/-- d[y] -/
def tDGet (td ty : TE) : TE := fun σ H Q => td σ H fun x H1 => ty σ H1 fun y H2 => ∃ a v, x = .ref a ∧ DGet H2 a y (some v) ∧ Q v H2
/-- y in d, y not in d -/
def tDIn (ty td : TE) : TE := fun σ H Q => ty σ H fun y H1 => td σ H1 fun x H2 => ∃ a o, x = .ref a ∧ DGet H2 a y o ∧ Q (.bl o.isSome) H2
def tDNotIn (ty td : TE) : TE := fun σ H Q => ty σ H fun y H1 => td σ H1 fun x H2 => ∃ a o, x = .ref a ∧ DGet H2 a y o ∧ Q (.bl (!o.isSome)) H2
/-- d[y] = v -/
def sDPut (td ty tv : TE) : TS := fun D σ H => tv σ H fun v H1 => td σ H1 fun x H2 => ty σ H2 fun y H3 => ∃ a H4, x = .ref a ∧ DPut H3 a y v H4 ∧ D.nx σ H4
/-- d[y] op= v -/
def sDAug (td ty tv : TE) (rd : V → V → Hp → VK → Prop) : TS := fun D σ H => td σ H fun x H1 => ty σ H1 fun y H2 => ∃ a v, x = .ref a ∧ DGet H2 a y (some v) ∧
  tv σ H2 fun y2 H3 => rd v y2 H3 fun z H4 => ∃ H5, DPut H4 a y z H5 ∧ D.nx σ H5
/-- del d[y] -/
def sDDel (td ty : TE) : TS := fun D σ H => td σ H fun x H1 => ty σ H1 fun y H2 => ∃ a kvs k, x = .ref a ∧ H2 a = some (.dK kvs) ∧ y = kV k ∧ (valV kvs k).isSome = true ∧ D.nx σ (upd H2 a (.dK (dropK kvs k)))

section
variable {X : Cx} {o i e value : Expr} {pos pos' tpos : Pos} {td ty tv : TE}
end


/-! ### displays -/
theorem dk_empty {P : Program} {w : World} {H : Hp} (h : Heap) (hb : sysModules < h.objs.size) : ObjOk P w H (h.push { cls := .type "dict", data := .dict #[] }) h.objs.size (.dK []) :=
  ⟨Nat.zero_le _, beq_eq_false_iff_ne.mpr (Ne.symm (Nat.ne_of_lt hb)), [], .nil, Heap.DictOf.new h⟩
/-- {}, to be a dict of the kind that is wanted -/
def tDNewK : TE := fun _ H Q => ∀ p, H p = none → Q (.ref p) (upd H p (.dK []))
def tDNewT : TE := fun _ H Q => ∀ p, H p = none → Q (.ref p) (upd H p (.dT []))
section
variable {X : Cx} {pos : Pos}
theorem pe_dnewK : PE X (.Dict [] [] pos) tDNewK := fun pins s σ H Q I h =>
  wpAny_Dict_empty ⟨.ref s.heap.objs.size, _, I.laid (a := s.heap.objs.size) (o := .dK []) (t' := s.toks) (fun _ _ q => Heap.get?_push_of_some _ q) (Nat.le_refl _) (dk_empty s.heap I.big), rfl, h _ (I.hok.fresh (Nat.le_refl _))⟩
end

/-- the pairs of a display, from the left -/
def tPairs : List (TE × TE) → St → Hp → (List (V × V) → Hp → Prop) → Prop
  | [], _, H, Q => Q [] H
  | (tk, tv) :: r, σ, H, Q => tk σ H fun x H1 => tv σ H1 fun y H2 => tPairs r σ H2 fun ps H3 => Q ((x, y) :: ps) H3
abbrev VV : List (V × V) → List (Value × Value) → Prop := Paired fun p q => RelV p.1 q.1 ∧ RelV p.2 q.2
def PPs (X : Cx) (pos : Pos) (keys : List (Option Expr)) (values : List Expr) (trs : List (TE × TE)) : Prop :=
  ∀ (pins : List (Addr × Obj)) (s : Shared) (σ : St) (H : Hp) (Q : List (V × V) → Hp → Prop), Inv X pins σ H s → tPairs trs σ H Q →
    wpAny (model X.prog X.w) X.A (evalPairs (pairTrees keys values X.env pos)) (fun vs s' => ∃ ps H', Inv X pins σ H' s' ∧ VV ps vs ∧ Q ps H') X.xe s

def mergeK (kvs more : List (Key × V)) : List (Key × V) := more.foldl (fun acc kv => putK acc kv.1 kv.2) kvs
/-- {k: v, ..} with keys ints and texts; the new dict stands empty while the pairs are made -/
def tDisp (trs : List (TE × TE)) : TE := fun σ H Q => ∀ p, H p = none → tPairs trs σ (upd H p (.dK [])) fun ps H2 => H2 p = some (.dK []) ∧ ∃ kvs : List (Key × V), ps = kvs.map (fun kv => (kV kv.1, kv.2)) ∧ kvs.length ≤ 15 ∧ Q (.ref p) (upd H2 p (.dK (mergeK [] kvs)))


/-! ### methods -/
/-- a method call o.m(e) of a built-in, with one argument: what must be seen of the text -/
structure M1 (X : Cx) (o : Expr) (m : Str) (apos : Pos) (e : Expr) (cpos : Pos) : Prop where
  base : attributeBase o m X.env (eval o X.env) = eval o X.env
  few : ((backTo cpos (starEach [e] X.env)).all (fun x => !x.1) && (backToKw cpos (keywordEach [] X.env)).all (fun x => x.1.isSome)
    && decide (([e] : List Expr).length + ([] : List Keyword).length + (if ([] : List Keyword).isEmpty then 0 else 1) < 30)) = true
  line : (apos.endLine == cpos.line) = true
  trees : backTo cpos (starEach [e] X.env) = [(false, eval e X.env)]
structure M2 (X : Cx) (o : Expr) (m : Str) (apos : Pos) (e f : Expr) (cpos : Pos) : Prop where
  base : attributeBase o m X.env (eval o X.env) = eval o X.env
  few : ((backTo cpos (starEach [e, f] X.env)).all (fun x => !x.1) && (backToKw cpos (keywordEach [] X.env)).all (fun x => x.1.isSome)
    && decide (([e, f] : List Expr).length + ([] : List Keyword).length + (if ([] : List Keyword).isEmpty then 0 else 1) < 30)) = true
  line : (apos.endLine == cpos.line) = true
  trees : backTo cpos (starEach [e, f] X.env) = [(false, eval e X.env), (false, eval f X.env)]

/-- a is a dict, whatever its keys -/
def IsD (H : Hp) (a : Addr) : Prop := (∃ kvs, Rd H a (.dK kvs)) ∨ ∃ kvs, Rd H a (.dT kvs)

section
variable {X : Cx} {pins : List (Addr × Obj)} {σ : St} {H : Hp} {s : Shared} {a : Addr} {y d : V} {u r : Value} {o : Option V} {A : Around} {E : Value → Shared → Prop}
end

def tDGet1 (td ty : TE) : TE := fun σ H Q => td σ H fun x H1 => ∃ a, x = .ref a ∧ IsD H1 a ∧ ty σ H1 fun y H2 => ∃ o, DGet H2 a y o ∧ Q (o.getD .non) H2
def tDGet2 (td ty tx : TE) : TE := fun σ H Q => td σ H fun x H1 => ∃ a, x = .ref a ∧ IsD H1 a ∧ ty σ H1 fun y H2 => tx σ H2 fun z H3 => ∃ o, DGet H3 a y o ∧ Q (o.getD z) H3
/-- d.pop(k): there; d.pop(k, x): there or not -/
def tDPop1 (td ty : TE) : TE := fun σ H Q => td σ H fun x H1 => ∃ a, x = .ref a ∧ IsD H1 a ∧ ty σ H1 fun y H2 => ∃ kvs k v, H2 a = some (.dK kvs) ∧ y = kV k ∧ valV kvs k = some v ∧ Q v (upd H2 a (.dK (dropK kvs k)))
def tDPop2 (td ty tx : TE) : TE := fun σ H Q => td σ H fun x H1 => ∃ a, x = .ref a ∧ IsD H1 a ∧ ty σ H1 fun y H2 => tx σ H2 fun z H3 => ∃ kvs k, H3 a = some (.dK kvs) ∧ y = kV k ∧
  (∀ v, valV kvs k = some v → Q v (upd H3 a (.dK (dropK kvs k)))) ∧ (valV kvs k = none → Q z H3)
section
variable {X : Cx} {o e f : Expr} {apos cpos : Pos} {td ty tx : TE}
end

/-! ### dict(d): a copy -/
section
variable {X : Cx} {pins : List (Addr × Obj)} {σ : St} {H : Hp} {s : Shared} {a : Addr} {kvs : List (Key × V)} {A : Around} {E : Value → Shared → Prop}
end


section
variable {X : Cx} {pins : List (Addr × Obj)} {σ : St} {H : Hp} {s : Shared} {a : Addr} {y : V} {u : Value} {A : Around} {E : Value → Shared → Prop}
end
end L2
set_option Elab.async false
set_option linter.all false
set_option maxRecDepth 100000
namespace Px
open PySem

/-- an error that flies: its class, its own dict, its entry T and where that one stands -/
def Tb (h : Heap) (e : Addr) (cls : Value) (od : Option Addr) (T : Addr) (fl : Value) : Prop :=
  ∃ oe vs oT ts, h.get? e = some oe ∧ oe.cls = cls ∧ oe.dict = od ∧ oe.data = .fields vs ∧ vs[1]? = some (.ref T) ∧ T ≠ e ∧ h.get? T = some oT ∧ oT.data = .fields ts ∧ ts[3]? = some fl

/-- all but the error, its entry and the frames' slots is kept -/
structure Chg (fs : List Addr) (e T : Addr) (h h' : Heap) : Prop where
  size : h.objs.size ≤ h'.objs.size
  keep : ∀ b o, h.get? b = some o → b ∉ fs → b ≠ e → b ≠ T → h'.get? b = some o
  slot : ∀ b o, h.get? b = some o → b ∈ fs → b ≠ e → b ≠ T → ∃ sl, h'.get? b = some { o with slots := sl }


section
variable {M : Model} {A : Around} {E : Value → Shared → Prop} {s : Shared} {base : Heap} {env : Env} {outer : List Env} {L e T : Addr}




end

/-- two steps behind one another: the entries T and T' are both the error's own -/
structure Chg2 (fs : List Addr) (own : Addr → Prop) (h h' : Heap) : Prop where
  size : h.objs.size ≤ h'.objs.size
  keep : ∀ b o, h.get? b = some o → b ∉ fs → ¬ own b → h'.get? b = some o
  slot : ∀ b o, h.get? b = some o → b ∈ fs → ¬ own b → ∃ sl, h'.get? b = some { o with slots := sl }
theorem Chg2.trans {fs : List Addr} {own : Addr → Prop} {h h1 h2 : Heap} (a : Chg2 fs own h h1) (b : Chg2 fs own h1 h2) : Chg2 fs own h h2 :=
  ⟨Nat.le_trans a.size b.size, fun c o q n m => b.keep c o (a.keep c o q n m) n m, fun c o q n m => by
    obtain ⟨s1, e1⟩ := a.slot c o q n m
    obtain ⟨s2, e2⟩ := b.slot c _ e1 n m
    exact ⟨s2, e2⟩⟩

section
variable {M : Model} {A : Around} {E : Value → Shared → Prop} {s : Shared} {base : Heap} {env : Env} {outer : List Env} {L e T : Addr}
end
end Px
set_option Elab.async false
set_option linter.all false
set_option maxRecDepth 100000
namespace Px
open PySem PySem.W PySem.Builtin PySem.Builtin.ObjectAttr

abbrev bmV : List Value := [.type "ValueError", .type "Exception", .type "BaseException", .type "object"]

/-- an error class of one's own, under ValueError -/
def xIn (K : Frag) (C : Addr) : Bool := match K.lookup C with
  | some ⟨.type "type", _, .cls cd, sl⟩ => (match cd.mro, sl.toList with
    | .ref D :: bm, [_, _, _, _, some (.builtin n), _] => D == C && n == "ValueError.__new__" && !cd.hasDel && tailIn K bmV bm
    | _, _ => false)
  | _ => false
theorem x_obj {K : Frag} {h : Heap} {C : Addr} (X : K.In h) (q : xIn K C = true) : ∃ nm qn N bs bm hd sn sub ab col dd k0 k1 k2 k3 k5,
    h.get? C = some (excClassObj nm qn C N bs bm hd sn sub ab col dd k0 k1 k2 k3 k5 "ValueError.__new__") ∧ OwnTail h bmV bm := by
  unfold xIn at q
  split at q
  · rename_i dd cd sl ho
    split at q
    · rename_i D bm k0 k1 k2 k3 n k5 hm hs
      simp only [Bool.and_eq_true, beq_iff_eq, Bool.not_eq_true'] at q
      obtain ⟨⟨⟨y1, y2⟩, y3⟩, y4⟩ := q
      subst y1; subst y2
      obtain ⟨nm, bs, mro, ns, qn, hd, sn, sub, ab, col, del⟩ := cd
      dsimp only at hm y3
      subst hm; subst y3
      have e : sl = #[k0, k1, k2, k3, some (.builtin "ValueError.__new__"), k5] := by
        obtain ⟨l⟩ := sl
        exact congrArg Array.mk hs
      subst e
      exact ⟨nm, qn, ns, bs, bm, hd, sn, sub, ab, col, dd, k0, k1, k2, k3, k5, X _ _ ho, tail_of_in X y4⟩
    · cases q
  · cases q

/-- the new object -/
abbrev excObj (C t : Addr) : Obj := { cls := .ref C, data := .fields #[.ref t, .none, .none, .none, .bool false, .none] }
abbrev argObj (vs : List Value) : Obj := { cls := .type "tuple", data := .seq vs.toArray }
abbrev excHeap (h : Heap) (C : Addr) (vs : List Value) : Heap := (h.push (argObj vs)).push (excObj C h.objs.size)

section
variable {prog : Program} {w : World} {A : Around} {E : Value → Shared → Prop} {h : Heap} {g : Array GenState} {d : Drawn} {t : Nat} {os : OsState} {K : Frag} {C fI : Addr} {vs : List Value}
/-- an error without an __init__ of its own -/
theorem plain_call {s : Shared} {Q : Value → Shared → Prop} (X : K.In s.heap) (q : excIn K C bmV "ValueError.__new__" = true)
    (hq : ∀ h' e, Heap.MadeExcOf s.heap h' e (.ref C) vs → Q (.ref e) { s with heap := h' }) (hz : vs.length ≤ sizeLine) : wpAny (model prog w) A (call (.ref C) vs) Q E s := by
  obtain ⟨h, g, d, t, os⟩ := s
  have FV := PySem.F.excBase_ValueError
  have inV : bmV.contains (.type "ValueError") = true := by decide
  unfold excIn at q
  split at q
  · rename_i dd cd sl ho
    split at q
    · rename_i D bm k0 k1 k2 k3 n k5 hm hs
      simp only [Bool.and_eq_true, beq_iff_eq, Bool.not_eq_true'] at q
      obtain ⟨⟨⟨⟨⟨y1, y2⟩, y3⟩, y4⟩, y5⟩, y6⟩ := q
      subst y1; subst y2
      obtain ⟨nm, bs, mro, ns, qn, hd, sn, sub, ab, col, del⟩ := cd
      dsimp only at hm y3 y5 y6
      subst hm; subst y3
      have e : sl = #[k0, k1, k2, k3, some (.builtin "ValueError.__new__"), k5] := by
        obtain ⟨l⟩ := sl
        exact congrArg Array.mk hs
      subst e
      exact wpAny_call_exc_subU FV inV FV (tail_of_in X y4) (X _ _ ho) (.of_isNs (isNs_of_in X y5)) (nsMap_none_of_in X y5 y6) hq hz
    · cases q
  · cases q
end

/-! raising -/
section
variable {prog : Program} {w : World} {A : Around} {E : Value → Shared → Prop} {s : Shared} {env : Env} {K : Frag}
end

/-! stores into an error's own dict, and reads -/
def valTail : List Value → Bool
  | [] => false
  | v :: r => (v :: r) == bmV || (match v with | .ref _ => valTail r | _ => false)
theorem valTail_cases {P : List Value → Prop} (base : P bmV) (own : ∀ c r, P r → P (.ref c :: r)) : ∀ {l : List Value}, valTail l = true → P l
  | [], e => by cases e
  | v :: r, e => by
    unfold valTail at e
    rcases Bool.or_eq_true_iff.mp e with q | q
    · rw [beq_iff_eq.mp q]; exact base
    · cases v <;> first | exact own _ _ (valTail_cases base own q) | cases q
def xOver (K : Frag) (C : Addr) : Bool := (clsIn K C).any fun cd => valTail cd.mro && cd.hasDict
theorem val_has {v : Value} (hv : bmV.contains v = true) {l : List Value} (e : valTail l = true) : l.contains v = true :=
  valTail_cases (P := fun l => l.contains v = true) hv (fun c r q => by rw [List.contains_cons, q, Bool.or_true]) e
theorem val_ne {l : List Value} (e : valTail l = true) : l.isEmpty = false := by
  cases l with
  | nil => cases e
  | cons _ _ => rfl

section
variable {prog : Program} {w : World} {A : Around} {E : Value → Shared → Prop} {s : Shared} {K : Frag} {x C : Addr} {ox : Obj} {name : Str} {v : Value}
theorem x_inst {M : Model} {od : Option Obj} {T : String} (X : K.In s.heap) (I : InstAt s.heap x ox C od) (hp : xOver K C = true) (hT : bmV.contains (.type T) = true) : Looks M s.heap (isInstance (.ref x) (.type T)) true := by
  obtain ⟨cd, hc, ho⟩ := any_some hp
  obtain ⟨o1, o2⟩ := Bool.and_eq_true_iff.mp ho
  refine I.type.andThen (looks_mroIn X ?_)
  unfold mroIn
  rw [hc, Option.bind_some, if_neg (by rw [val_ne o1]; decide), val_has hT o1]
end
end Px
set_option Elab.async false
set_option linter.all false
set_option maxRecDepth 100000
namespace L2
open PySem PySem.Spec PyProof.Rows Px

/-! errors as objects -/
def exO (a C : Addr) (od : Option Addr) (fr : Bool) : HO := .ext fun h => ∃ vs sl, h.get? a = some ⟨.ref C, od, .fields vs, sl⟩ ∧ (fr = true → ∃ t, vs = #[.ref t, .none, .none, .none, .bool false, .none])
def xdO (a : Addr) (fs : List (Str × V)) : HO := .ext fun h => ∃ mA, h.Ns1 a mA ∧ (∀ f, RelO (fs.lookup f) (mA f)) ∧ PySem.Within mA (fs.map (·.1))
def del (H : Hp) (a : Addr) : Hp := fun b => if b = a then none else H b
theorem del_same {H : Hp} {a : Addr} : del H a a = none := by unfold del; rw [if_pos rfl]
theorem del_ne {H : Hp} {a b : Addr} (h : b ≠ a) : del H a b = H b := by unfold del; rw [if_neg h]

section
variable {P : Program} {w : World} {H H' : Hp} {h h' h2 : Heap} {a C : Addr} {o : HO} {fs ex fs' : List Addr} {own : Addr → Prop}
theorem exO_ok {od : Option Addr} {fr : Bool} {vs : Array Value} {sl : Array (Option Value)} (e : h.get? a = some ⟨.ref C, od, .fields vs, sl⟩) (f : fr = true → ∃ t, vs = #[.ref t, .none, .none, .none, .bool false, .none]) : ObjOk P w H h a (exO a C od fr) :=
  ⟨⟨vs, sl, e, f⟩, ⟨_, e⟩, fun _ _ ⟨vs, sl, e, f⟩ k => ⟨vs, sl, k _ e, f⟩⟩
theorem exO_get {od : Option Addr} {fr : Bool} (ok : HOk P w H h) (e : H a = some (exO a C od fr)) : ∃ vs sl, h.get? a = some ⟨.ref C, od, .fields vs, sl⟩ ∧ (fr = true → ∃ t, vs = #[.ref t, .none, .none, .none, .bool false, .none]) :=
  (show ObjOk P w H h a (exO a C od fr) from ok a _ e).1
theorem xdO_get {l : List (Str × V)} (ok : HOk P w H h) (e : H a = some (xdO a l)) : ∃ mA, h.Ns1 a mA ∧ (∀ f, RelO (l.lookup f) (mA f)) ∧ PySem.Within mA (l.map (·.1)) :=
  (show ObjOk P w H h a (xdO a l) from ok a _ e).1
/-- an object that was not tracked is tracked from now on -/
theorem HOk.track (x : HOk P w H h) (n : H a = none) (new : ObjOk P w (upd H a o) h a o) : HOk P w (upd H a o) h := fun b u e => by
  by_cases hb : b = a
  · subst hb; rw [upd_same] at e; cases e; exact new
  · rw [upd_ne hb] at e
    exact (x b u e).stay (fun _ _ _ q => q) (fun c q => by rw [upd_ne (ne_of_none q n)]; exact q) fun c xs q => by rw [upd_ne (ne_of_none q n)]; exact q
theorem Un.track (u : Un fs ex H H' h h') (n : H' a = none) (nw : ∀ ob, h.get? a = some ob → a ∈ ex ∨ H a ≠ none) : Un fs ex H (upd H' a o) h h' where
  keep := u.keep
  slot := u.slot
  free := fun b ob q m hx => by
    rw [upd_ne]
    · exact u.free b ob q m hx
    · intro e
      subst e
      rcases nw ob q with z | z
      · exact hx z
      · exact z m
  there := u.there
  tups := fun b xs q => by rw [upd_ne (ne_of_none (u.tups b xs q) n)]; exact u.tups b xs q
  frzs := fun b ob v q => by rw [upd_ne (ne_of_none (u.frzs b ob v q) n)]; exact u.frzs b ob v q
  tbls := fun b ps q => by
    obtain ⟨m, e⟩ := u.tbls b ps q
    exact ⟨m, by rw [upd_ne (ne_of_none e n)]; exact e⟩
/-- an error is no longer tracked -/
theorem HOk.drop {φ : Heap → Prop} (x : HOk P w H h) (e : H a = some (.ext φ)) : HOk P w (del H a) h := fun b u q => by
  by_cases hb : b = a
  · rw [hb, del_same] at q; cases q
  · rw [del_ne hb] at q
    exact (x b u q).stay (fun _ _ _ z => z) (fun c z => by rw [del_ne (ne_of z e (by intro y; cases y))]; exact z) fun c xs z => by rw [del_ne (ne_of z e (by intro y; cases y))]; exact z
theorem Un.drop {φ : Heap → Prop} (u : Un fs ex H H' h h') (e : H' a = some (.ext φ)) : Un fs ex H (del H' a) h h' where
  keep := u.keep
  slot := u.slot
  free := fun b ob q m hx => by
    by_cases hb : b = a
    · rw [hb]; exact del_same
    · rw [del_ne hb]; exact u.free b ob q m hx
  there := u.there
  tups := fun b xs q => by rw [del_ne (ne_of (u.tups b xs q) e (by intro y; cases y))]; exact u.tups b xs q
  frzs := fun b ob v q => by rw [del_ne (ne_of (u.frzs b ob v q) e (by intro y; cases y))]; exact u.frzs b ob v q
  tbls := fun b ps q => by
    obtain ⟨m, z⟩ := u.tbls b ps q
    exact ⟨m, by rw [del_ne (ne_of z e (by intro y; cases y))]; exact z⟩
end

section
variable {X : Cx} {pins : List (Addr × Obj)} {σ : St} {H : Hp} {s : Shared} {h' : Heap}
theorem ObjOk.thereN {P : Program} {w : World} {H : Hp} {h : Heap} {a : Addr} {u : HO} (x : ObjOk P w H h a u) : ∃ ob, h.get? a = some ob := by
  cases u with
  | lst xs => obtain ⟨_, _, _, _, e⟩ := x; exact ⟨_, e⟩
  | tup xs => obtain ⟨_, _, _, ob, e, _⟩ := x; exact ⟨_, e⟩
  | dK kvs => obtain ⟨_, _, _, _, o, _, _, e, _⟩ := x; exact ⟨_, e⟩
  | dT kvs => obtain ⟨_, _, _, _, o, _, _, e, _⟩ := x; exact ⟨_, e⟩
  | set S n => obtain ⟨o, _, _, _, e, _⟩ := x; exact ⟨_, e⟩
  | ins C dx fs => obtain ⟨_, _, _, e, _⟩ := x; exact ⟨_, e⟩
  | own y => exact x
  | xd fs => obtain ⟨_, ⟨_, _, _, e, _⟩, _⟩ := x; exact ⟨_, e⟩
  | rng lo hi => obtain ⟨_, _, _, e⟩ := x; exact ⟨_, e⟩
  | frz ob u => obtain ⟨e, _⟩ := x; exact ⟨_, e⟩
  | tbl ps => exact ⟨_, (show h.get? a = some _ from x)⟩
  | met f y => exact ⟨_, (show h.get? a = some _ from x)⟩
  | ext φ => exact x.2.1
theorem HOk.noneN {P : Program} {w : World} {H : Hp} {h : Heap} {a : Addr} (x : HOk P w H h) (n : h.get? a = none) : H a = none := by
  cases q : H a with
  | none => rfl
  | some u =>
    obtain ⟨ob, z⟩ := (x a u q).thereN
    rw [n] at z; cases z
/-- a new object where nothing was -/
theorem Inv.laidN {a : Addr} {o : HO} {t' : Nat} (I : Inv X pins σ H s) (k : ∀ b u, s.heap.get? b = some u → h'.get? b = some u) (hp : s.heap.get? a = none) (new : ObjOk X.prog X.w (upd H a o) h' a o) :
    Inv X pins σ (upd H a o) { s with heap := h', toks := t' } := by
  have n : H a = none := I.hok.noneN hp
  exact I.un ((Un.kept k).track n fun ob q => by rw [hp] at q; cases q) ((I.hok.kept k).track n new)

/-! ### what an error is behind a call -/
end
def CX1 (P : Program) (w : World) : CXT := fun outer H s E e s' => ∃ (ea : Addr) (cls : Value) (od : Option Addr) (H' : Hp) (T : Addr), e = .ref ea ∧ s'.os = s.os ∧ AllBare s'.gens ∧ Un (frs outer) [] H H' s.heap s'.heap ∧ HOk P w H' s'.heap ∧
  Tb s'.heap ea cls od T .none ∧ (s.heap.get? ea = none ∨ H ea ≠ none) ∧ s.heap.get? T = none ∧ H' ea = none ∧ H' T = none ∧ E cls od H'


section
variable {P : Program} {w : World} {K : PySem.W.Frag} {mg : Str → Option Value} {base : Heap} {N : List Str} {qual : Str} {scope : Scope} {f : Addr} {cd : Value} {A : Around} {outer : List Env} {s₀ : Shared} {H₀ : Hp} {E : XK}
/-- a raised error -/
def RaisesTo (X : Cx) (E : XK) : Prop := ∀ (pins : List (Addr × Obj)) (σ : St) (H : Hp) (s : Shared) (e C : Addr) (od : Option Addr), Inv X pins σ H s → H e = some (exO e C od true) → E (.ref C) od (del H e) → X.xe (.ref e) s
/-- one that comes out of a call -/
def PassesS (CX : CXT) (X : Cx) (E : St → XK) : Prop := ∀ (pins : List (Addr × Obj)) (σ : St) (H : Hp) (s : Shared) (e : Value) (s' : Shared), Inv X pins σ H s → CX X.stack H s (E σ) e s' → X.xe e s'
end
end L2
set_option Elab.async false
set_option linter.all false
set_option maxRecDepth 100000
namespace L2
open PySem PySem.Spec PyProof.Rows Px

structure XCls (K : PySem.W.Frag) (C : Addr) : Prop where
  q : xIn K C = true
  ov : xOver K C = true
  sa : PySem.W.findIn K (.ref C) "__setattr__" = some (some (.builtin "object.__setattr__"))
  ga : PySem.W.findIn K (.ref C) "__getattribute__" = some (some (.builtin "BaseException.__getattribute__"))
  gn : PySem.W.findIn K (.ref C) "__getattr__" = some none
  kp : PySem.W.keepIn K (.ref C) = true
theorem XCls.hd {K : PySem.W.Frag} {C : Addr} (c : XCls K C) : PySem.W.hasDictIn K C = true := by
  obtain ⟨cd, hc, ho⟩ := PySem.W.any_some c.ov
  unfold PySem.W.hasDictIn
  rw [hc]
  exact (Bool.and_eq_true_iff.mp ho).2

/-! making errors -/
def tExc (C : Addr) (t : TA) : TE := fun σ H Q => t σ H fun vs H1 => vs.length ≤ sizeLine ∧ ∀ e, H1 e = none → Q (.ref e) (upd H1 e (exO e C none true))
def tExcI (C : Addr) (sp : Sp) (t : TA) : TE := fun σ H Q => t σ H fun vs H1 => vs.length ≤ sizeLine ∧ ∀ x, H1 x = none → sp (.ref x :: vs) (upd H1 x (exO x C none true)) (fun v H2 => v = .non ∧ Q (.ref x) H2) E0
section
variable {X : Cx} {k : Nat} {f C : Addr} {fd : FuncData} {ps : List Str} {sp : Sp} {x : Str} {p pos : Pos} {e : Expr} {es : List Expr} {t : TA}
theorem pe_exc (c : XCls X.K C) (hq : PySem.W.excIn X.K C bmV "ValueError.__new__" = true) (hg : Gl X x) (hm : X.mg x = some (.ref C)) (ha : PA X (e :: es) t)
    (hdb : (x == ("__debug__" : Str)) = false := by decide) (he : starEach (e :: es) X.env = (false, eval e X.env) :: starEach es X.env := by rfl) (hpl : (backTo pos (starEach es X.env)).any (·.1) = false := by rfl) :
    PE X (.Call (.Name x p) (e :: es) [] pos) (tExc C t) := by
  intro pins s σ H Q I h
  refine wpAny_Call_Name_kw (ld_glob I hg hm ?_ hdb)
  refine PySem.W.callWith_K (h₀ := X.base) I.ok.mod.kin c.kp (thn (ha pos pins s σ H _ I h) fun us s1 ⟨vs, H1, I1, r, z, q⟩ => ⟨I1.kIn, ?_⟩) he hpl
  refine plain_call I1.kIn hq (fun h' ea mk => ?_) (show us.length ≤ sizeLine by rw [← r.length]; exact z)
  obtain ⟨t, ge, nt, gt⟩ := mk.there
  exact ⟨.ref ea, _, I1.laidN (t' := s1.toks) mk.keeps mk.new (exO_ok ge fun _ => ⟨t, rfl⟩), rfl, q ea (I1.hok.noneN mk.new)⟩
end

/-! raising -/
def tRaise (K : PySem.W.Frag) (te : TE) (E : XK) : TS := fun D σ H => te σ H fun v H1 => ∃ e C od, v = .ref e ∧ H1 e = some (exO e C od true) ∧ xIn K C = true ∧ E (.ref C) od (del H1 e)

/-! fields of errors -/
def sXF1 (K : PySem.W.Frag) (ta tv : TE) (f : Str) : TS := fun D σ H => tv σ H fun y H1 => ta σ H1 fun x H2 => ∃ a C fr, x = .ref a ∧ H2 a = some (exO a C none fr) ∧ XCls K C ∧ NoAttr K C f ∧
  ∀ d, H2 d = none → d ≠ a → D.nx σ (upd (upd H2 d (xdO d [(f, y)])) a (exO a C (some d) fr))
def sXF2 (K : PySem.W.Frag) (ta tv : TE) (f : Str) : TS := fun D σ H => tv σ H fun y H1 => ta σ H1 fun x H2 => ∃ a C fr d l, x = .ref a ∧ H2 a = some (exO a C (some d) fr) ∧ H2 d = some (xdO d l) ∧ d ≠ a ∧ XCls K C ∧ NoAttr K C f ∧ l.length < 1000 ∧
  D.nx σ (upd H2 d (xdO d (putF f y l)))
def tXG (K : PySem.W.Frag) (ta : TE) (f : Str) : TE := fun σ H Q => ta σ H fun x H1 => ∃ a C fr d l v, x = .ref a ∧ H1 a = some (exO a C (some d) fr) ∧ H1 d = some (xdO d l) ∧ XCls K C ∧ NoAttr K C f ∧ l.lookup f = some v ∧ Q v H1
section
variable {X : Cx} {o e value : Expr} {f : Str} {pos pos' : Pos} {ta tv : TE}
end

/-! calls within a try -/
def tCallS (sp : Sp) (E : St → XK) (t : TA) : TE := fun σ H Q => t σ H fun vs H1 => sp vs H1 Q (E σ)
def tMethS (C : Addr) (m : Str) (sp : Sp) (E : St → XK) (ta : TE) (t : TA) : TE := fun σ H Q => ta σ H fun x H1 => ∃ a dx fs, x = .ref a ∧ H1 a = some (.ins C dx fs) ∧ fs.lookup m = none ∧ t σ H1 fun vs H2 => sp (x :: vs) H2 Q (E σ)
section
variable {X : Cx} {CX : CXT} {k : Nat} {f C : Addr} {fd : FuncData} {ps : List Str} {sp : Sp} {E : St → XK} {x m : Str} {p pos apos : Pos} {e o : Expr} {es : List Expr} {ta : TE} {t : TA}
end

/-! a def that may raise -/

/-! try -/
abbrev Cx.tried (X : Cx) (xe : Value → Shared → Prop) (pn : List (Addr × Obj)) : Cx := { X with xe := xe, pn := pn }
abbrev Cx.suite (X : Cx) (e : Addr) : Cx := { X with A := X.A.mark (some (.ref e)), calm := false, xe := fun _ _ => False }
section
variable {X : Cx} {pins pins' : List (Addr × Obj)} {σ : St} {H : Hp} {s : Shared} {xe : Value → Shared → Prop}
theorem Inv.tried (I : Inv X pins σ H s) (xe : Value → Shared → Prop) : Inv (X.tried xe (X.pn ++ pins)) [] σ H s :=
  ⟨⟨I.ok.mod, I.ok.kind, I.ok.glob, I.ok.blt, I.ok.above, I.ok.inj, I.ok.has, I.ok.cab, I.ok.hd, I.ok.frames, I.ok.stk, I.ok.exf, I.ok.bs, I.ok.bsz, I.ok.noex, I.ok.exfs, I.ok.funs, I.ok.frf⟩,
    I.os, I.bare, I.base, I.loc, I.cell, I.free, I.freeC, fun p hp => I.pin p (by simpa using hp), I.hok, I.len⟩
theorem Inv.suite (I : Inv X pins σ H s) (e : Addr) : Inv (X.suite e) pins σ H s :=
  ⟨⟨I.ok.mod, I.ok.kind, I.ok.glob, I.ok.blt, I.ok.above, I.ok.inj, I.ok.has, I.ok.cab, (fun z => nomatch z), I.ok.frames, I.ok.stk, I.ok.exf, I.ok.bs, I.ok.bsz, I.ok.noex, I.ok.exfs, I.ok.funs, I.ok.frf⟩,
    I.os, I.bare, I.base, I.loc, I.cell, I.free, I.freeC, I.pin, I.hok, I.len⟩

end

def Ends.less (D : Ends) (i : Nat) : Ends := { nx := fun σ H => D.nx (σ.set i none) H, rt := D.rt, bk := fun σ H => D.bk (σ.set i none) H, ct := fun σ H => D.ct (σ.set i none) H }
/-- what is wanted of an error that a clause «except C as n» takes -/
def catchAs (K : PySem.W.Frag) (cv : Value) (i : Nat) (ts : TS) (D : Ends) : St → XK := fun σ cls od H' => ∃ C, cls = .ref C ∧ PySem.W.exmOne K (.ref C) cv = some true ∧
  ∀ e, H' e = none → ts (D.less i) (σ.set i (some (.ref e))) (upd H' e (exO e C od false))
def catch0 (K : PySem.W.Frag) (cv : Value) (ts : TS) (D : Ends) : St → XK := fun σ cls od H' => ∃ C, cls = .ref C ∧ PySem.W.exmOne K (.ref C) cv = some true ∧
  ∀ e, H' e = none → ts D σ (upd H' e (exO e C od false))
def tTryAs (K : PySem.W.Frag) (cv : Value) (i : Nat) (tb : (St → XK) → TS) (ts : TS) : TS := fun D σ H => tb (catchAs K cv i ts D) D σ H
def tTry0 (K : PySem.W.Frag) (cv : Value) (tb : (St → XK) → TS) (ts : TS) : TS := fun D σ H => tb (catch0 K cv ts D) D σ H

theorem _root_.Px.Chg2.mono {fs : List Addr} {own own' : Addr → Prop} {h h' : Heap} (c : Chg2 fs own h h') (k : ∀ b, own b → own' b) : Chg2 fs own' h h' :=
  ⟨c.size, fun b o q a n => c.keep b o q a fun z => n (k b z), fun b o q a n => c.slot b o q a fun z => n (k b z)⟩

section
variable {X : Cx} {x n : Str} {i : Nat} {cv : Value} {body suite : List Stmt} {b₀ : Stmt} {np hpos pos : Pos} {tb : (St → XK) → TS} {ts : TS}
end
end L2
set_option Elab.async false
set_option linter.all false
set_option maxRecDepth 100000
namespace L2
open PySem PySem.Spec PyProof.Rows Px
/-! defs that may raise, methods, classes: in one word each -/
structure FnX (P : Program) (w : World) (K : PySem.W.Frag) (mg : Str → Option Value) (base : Heap) (x : Str) (k : Nat) (ps : List Str) (sp : Sp) : Prop where
  ex : ∃ f fd, FnOk P w K mg base (CX1 P w) k f fd ps sp ∧ Binds K fd ps [] ∧ PySem.W.keepIn K (.ref f) = true ∧ mg x = some (.ref f)
structure Mdf (K : PySem.W.Frag) (C : Addr) (m qual : Str) (st : Stmt) (ps : List Str) : Prop where
  ex : ∃ f fd, Fun K m qual st f fd ∧ Binds K fd ps [] ∧ Meth K C m f
structure Mt (P : Program) (w : World) (K : PySem.W.Frag) (mg : Str → Option Value) (base : Heap) (CX : CXT) (C : Addr) (m : Str) (k : Nat) (ps : List Str) (sp : Sp) : Prop where
  ex : ∃ f fd, FnOk P w K mg base CX k f fd ps sp ∧ Binds K fd ps [] ∧ Meth K C m f
structure Mkd (K : PySem.W.Frag) (mg : Str → Option Value) (x : Str) (C : Addr) (qual : Str) (st : Stmt) (ps : List Str) : Prop where
  ex : ∃ f fd, Fun K "__init__" qual st f fd ∧ Binds K fd ps [] ∧ Mk K C f ∧ mg x = some (.ref C)
structure Mkr (P : Program) (w : World) (K : PySem.W.Frag) (mg : Str → Option Value) (base : Heap) (x : Str) (C : Addr) (k : Nat) (ps : List Str) (sp : Sp) : Prop where
  ex : ∃ f fd, FnOk P w K mg base CX0 k f fd ps sp ∧ Binds K fd ps [] ∧ Mk K C f ∧ mg x = some (.ref C)
structure XId (K : PySem.W.Frag) (mg : Str → Option Value) (x : Str) (C : Addr) (qual : Str) (st : Stmt) (ps : List Str) : Prop where
  cl : XCls K C
  ex : ∃ f fd, Fun K "__init__" qual st f fd ∧ Binds K fd ps [] ∧ PySem.W.findIn K (.ref C) "__init__" = some (some (.ref f)) ∧ PySem.W.isFn K (.ref f) = true ∧ mg x = some (.ref C)
structure XI (P : Program) (w : World) (K : PySem.W.Frag) (mg : Str → Option Value) (base : Heap) (x : Str) (C : Addr) (k : Nat) (ps : List Str) (sp : Sp) : Prop where
  cl : XCls K C
  ex : ∃ f fd, FnOk P w K mg base CX0 k f fd ps sp ∧ Binds K fd ps [] ∧ PySem.W.findIn K (.ref C) "__init__" = some (some (.ref f)) ∧ PySem.W.isFn K (.ref f) = true ∧ mg x = some (.ref C)
structure XP (K : PySem.W.Frag) (mg : Str → Option Value) (x : Str) (C : Addr) : Prop where
  cl : XCls K C
  ei : PySem.W.excIn K C bmV "ValueError.__new__" = true
  mg : mg x = some (.ref C)
section
variable {P : Program} {w : World} {K : PySem.W.Frag} {mg : Str → Option Value} {base : Heap} {x m qual : Str} {C : Addr} {st : Stmt} {ps N : List Str} {sp sp' : Sp} {k : Nat} {CX : CXT}
theorem FnX.mono {j : Nat} (F : FnX P w K mg base x j ps sp) (h : j ≤ k) : FnX P w K mg base x k ps sp := by
  obtain ⟨f, fd, a, b⟩ := F.ex
  exact ⟨f, fd, a.mono h, b⟩
theorem Mdf.ok (D : Mdf K C m qual st ps) (S : FnScope N ps (defScope st)) (len : ∀ vs H Q E, sp vs H Q E → vs.length = ps.length)
    (hbody : ∀ (f : Addr) (cdv : Value) (A : Around) (outer : List Env) (s : Shared) (H : Hp) (vs : List V) (Q : VK) (E : XK), Room k (A.deeper (envOfC qual (defScope st) s.heap.objs.size f cdv)) → sp vs H Q E →
      ∃ t, PSs (cxOf CX0 P w K mg base N qual (defScope st) f cdv A outer s H E).nox (defBody st) t ∧ t { nx := fun _ H' => Q .non H', rt := Q } (start N vs) H) : Mt P w K mg base CX0 C m (k + 1) ps sp := by
  obtain ⟨f, fd, F, b, me⟩ := D.ex
  exact ⟨f, fd, F.ok S len (fun cdv A outer s H vs Q E hr h => hbody f cdv A outer s H vs Q E hr h), b, me⟩
theorem Mkd.ok (D : Mkd K mg x C qual st ps) (S : FnScope N ps (defScope st)) (len : ∀ vs H Q E, sp vs H Q E → vs.length = ps.length)
    (hbody : ∀ (f : Addr) (cdv : Value) (A : Around) (outer : List Env) (s : Shared) (H : Hp) (vs : List V) (Q : VK) (E : XK), Room k (A.deeper (envOfC qual (defScope st) s.heap.objs.size f cdv)) → sp vs H Q E →
      ∃ t, PSs (cxOf CX0 P w K mg base N qual (defScope st) f cdv A outer s H E).nox (defBody st) t ∧ t { nx := fun _ H' => Q .non H', rt := Q } (start N vs) H) : Mkr P w K mg base x C (k + 1) ps sp := by
  obtain ⟨f, fd, F, b, mk, mm⟩ := D.ex
  exact ⟨f, fd, F.ok S len (fun cdv A outer s H vs Q E hr h => hbody f cdv A outer s H vs Q E hr h), b, mk, mm⟩
theorem XId.ok (D : XId K mg x C qual st ps) (S : FnScope N ps (defScope st)) (len : ∀ vs H Q E, sp vs H Q E → vs.length = ps.length)
    (hbody : ∀ (f : Addr) (cdv : Value) (A : Around) (outer : List Env) (s : Shared) (H : Hp) (vs : List V) (Q : VK) (E : XK), Room k (A.deeper (envOfC qual (defScope st) s.heap.objs.size f cdv)) → sp vs H Q E →
      ∃ t, PSs (cxOf CX0 P w K mg base N qual (defScope st) f cdv A outer s H E).nox (defBody st) t ∧ t { nx := fun _ H' => Q .non H', rt := Q } (start N vs) H) : XI P w K mg base x C (k + 1) ps sp := by
  obtain ⟨c, f, fd, F, b, i, n, mm⟩ := D
  exact ⟨c, f, fd, F.ok S len (fun cdv A outer s H vs Q E hr h => hbody f cdv A outer s H vs Q E hr h), b, i, n, mm⟩
end
section
variable {X : Cx} {CX : CXT} {x m : Str} {C : Addr} {ps : List Str} {sp : Sp} {k k' : Nat} {e o : Expr} {es : List Expr} {ta : TE} {t : TA} {p pos apos : Pos} {E : XK} {ES : St → XK}
theorem pe_xp (M : XP X.K X.mg x C) (hg : Gl X x) (ha : PA X (e :: es) t) (hd : (x == ("__debug__" : Str)) = false := by decide)
    (he : starEach (e :: es) X.env = (false, eval e X.env) :: starEach es X.env := by rfl) (hpl : ∀ pos, (backTo pos (starEach es X.env)).any (·.1) = false := by intro _; rfl) : PE X (.Call (.Name x p) (e :: es) [] pos) (tExc C t) :=
  pe_exc M.cl M.ei hg M.mg ha hd he (hpl _)
end
end L2
set_option Elab.async false
set_option linter.all false
set_option maxRecDepth 100000
namespace L2
open PySem PySem.Spec PyProof.Rows Px
/-! isinstance of several classes -/
def clsV : V → Value
  | .ty n => .type n
  | .ref a => .ref a
  | _ => .none
def Clss (ts : List V) : Prop := ∀ v ∈ ts, (∃ n, v = .ty n) ∨ ∃ a, v = .ref a
theorem clss_vals : ∀ {ts : List V} {us : List Value}, Clss ts → Vals ts us → us = ts.map clsV
  | _, _, _, .nil => rfl
  | t :: ts, u :: us, h, .cons r q => by
    rw [List.map_cons, ← clss_vals (fun v hv => h v (.tail _ hv)) q]
    congr 1
    rcases h t (.head _) with ⟨n, e⟩ | ⟨a, e⟩
    · subst e; exact r
    · subst e; exact r
section
variable {X : Cx} {pins : List (Addr × Obj)} {σ : St} {H : Hp} {s : Shared}
end
section
variable {X : Cx}
def rInstT (K : PySem.W.Frag) : List V → Hp → VK → Prop := fun xs H Q => ∃ x p ts t b, xs = [x, .ref p] ∧ H p = some (.tup ts) ∧ Clss ts ∧ TyOf K H x t ∧ PySem.W.kitAny K t (ts.map clsV) = some b ∧ Q (.bl b) H
end
end L2
set_option Elab.async false
set_option linter.all false
set_option maxRecDepth 100000
namespace L2
open PySem PySem.Spec PyProof.Rows Px
/-! from the text to the classes' facts -/
section
variable {K : PySem.W.Frag} {h : Heap} {mg : Str → Option Value} {C f : Addr} {x m qual : Str} {st : Stmt} {ps : List Str} {od an : Option Addr} {sl : Array (Option Value)} {oc kV dc pm cd ct : Value}
theorem xcls_mk (q : xIn K C = true) (ov : xOver K C = true) (sa : PySem.W.findIn K (.ref C) "__setattr__" = some (some (.builtin "object.__setattr__"))) (ga : PySem.W.findIn K (.ref C) "__getattribute__" = some (some (.builtin "BaseException.__getattribute__"))) (gn : PySem.W.findIn K (.ref C) "__getattr__" = some none)
    (kp : PySem.W.keepIn K (.ref C) = true) : XCls K C := ⟨q, ov, sa, ga, gn, kp⟩
/-- a class by its name: its address is found first, then what is said of it -/
theorem by_name {R : Addr → Prop} (X : K.In h) (n : PySem.W.nsIn K mainGlobals x = some (some (.ref C))) (r : R C) : ∃ C, R C := ⟨C, r⟩
end
end L2
set_option Elab.async false
set_option linter.all false
set_option maxRecDepth 100000
namespace Px
open PySem PySem.W PySem.Builtin PySem.Builtin.ObjectAttr
/-! what class an error has -/
theorem fo_data {K : Frag} {C : Addr} {od : Option Obj} {name : Str} {a g : Value} (hc : (clsIn K C).isSome = true) (ha : findIn K (.ref C) name = some (some a)) (hg : specialIn K a "__get__" = some (some g))
    (ht : takesIn K a = some true) : findObj K C od name = some (.bind g a) := by
  obtain ⟨c, e⟩ := Option.isSome_iff_exists.mp hc
  unfold findObj
  rw [e, Option.bind_some, ha, Option.bind_some]
  simp [hg, ht]
section
variable {prog : Program} {w : World} {A : Around} {E : Value → Shared → Prop} {s : Shared} {K : Frag} {x D : Addr} {ox : Obj} {od : Option Obj}
theorem xc_class {Q : Option Value → Shared → Prop} (X : K.In s.heap) (I : InstAt s.heap x ox D od) (hp : xOver K D = true)
    (hga : findIn K (.ref D) "__getattribute__" = some (some (.builtin "BaseException.__getattribute__"))) (hgn : findIn K (.ref D) "__getattr__" = some none)
    (ha : findIn K (.ref D) "__class__" = some (some (.builtin "object.__class__"))) (hn : specialIn K (.builtin "object.__class__") "__get__" = some (some (.builtin "getset_descriptor.__get__")))
    (htk : takesIn K (.builtin "object.__class__") = some true) (hm : mroIn K D (.type "object") = some true) (h : Q (some (.ref D)) { s with toks := s.toks + 1 }) : wpAny (model prog w) A (getAttr? (.ref x) "__class__") Q E s := by
  have isB := x_inst (M := model prog w) (T := "BaseException") X I hp (by decide)
  have cd : (clsIn K D).isSome = true := by obtain ⟨c, hc, _⟩ := any_some hp; rw [hc]; rfl
  have hf : findObj K D od "__class__" = some (.bind (.builtin "getset_descriptor.__get__") (.builtin "object.__class__")) := fo_data cd ha hn htk
  obtain ⟨hp', g, d, t, os⟩ := s
  have L0 := I.type (M := model prog w)
  have L1 := looks_findIn (M := model prog w) X hga
  have L2 := looks_findIn (M := model prog w) X hgn
  have L3 := looks_find (M := model prog w) X I hf
  have FB := PySem.F.attrBase_ValueError
  have bi := FB.ga.bind (.ref x)
  have kd : builtinKind "BaseException.__getattribute__" = some .slot := by decide +kernel
  have sp : splitId "BaseException.__getattribute__" = some ("BaseException", "__getattribute__") := by decide +kernel
  unfold getAttr? getAttrBy? getAttrBy
  refine wpAny_bind (wpAny_mkText (wpAny_bind (wpAny_attempt (wpAny_holding (wpAny_bind (L0.at (wpAny_bind (L1.at ?_))))))))
  have nb : (onTheHeap (Value.ref D) && Value.builtin "BaseException.__getattribute__" == Value.builtin "object.__getattribute__") = false := by
    rw [show (Value.builtin "BaseException.__getattribute__" == Value.builtin "object.__getattribute__") = false from by decide +kernel, Bool.and_false]
  dsimp only
  rw [nb, if_neg Bool.false_ne_true]
  unfold getAttrByItsOwn
  refine wpAny_bind ?_
  show wpAny _ _ (typeLookup (.ref D) "__getattr__") _ _ _
  refine L2.at ?_
  unfold callGetattribute
  rw [Bool.false_and, if_neg Bool.false_ne_true]
  unfold boundAndCalled
  refine wpAny_bind (wpAny_attempt (wpAny_holding ?_))
  rw [bi]
  refine wpAny_bind (wpAny_pure ?_)
  refine wpAny_call (codeAny_call_builtin FB.ga.plain PySem.F.entry_bexc_ga (@check_slot (model prog w) _ _ _ "BaseException.__getattribute__" "BaseException" "__getattribute__" (.ref x) [.str "__class__" t] [] _ kd sp isB (PySem.F.args_bexc_ga _ _) ?_))
  unfold Builtin.«object.__getattribute__»
  repeat (any_goals (first | assumption | with_reducible refine wpAny_bind (L0.at ?_) | with_reducible refine wpAny_bind (L3.at ?_) | wp_step))
  refine class_get X I hm ?_
  show wpAny _ _ (ret (.ref D)) _ _ _
  refine wpAny_pure ?_
  show wpAny _ _ (handedOut (.ref D)) _ _ _
  exact wpAny_pure (wpAny_pure h)
theorem kitx_exc {K : Frag} {x D : Addr} {ox : Obj} {od : Option Obj} (hp : xOver K D = true)
    (hga : findIn K (.ref D) "__getattribute__" = some (some (.builtin "BaseException.__getattribute__"))) (hgn : findIn K (.ref D) "__getattr__" = some none)
    (ha : findIn K (.ref D) "__class__" = some (some (.builtin "object.__class__"))) (hn : specialIn K (.builtin "object.__class__") "__get__" = some (some (.builtin "getset_descriptor.__get__")))
    (htk : takesIn K (.builtin "object.__class__") = some true) (hm : mroIn K D (.type "object") = some true) : KitX K (.ref x) (.ref D) (fun h => InstAt h x ox D od) where
  ty := fun _ _ _ I => I.type
  it := fun _ _ X _ => by
    obtain ⟨c, hc, _⟩ := any_some hp
    unfold clsIn at hc
    split at hc
    · rename_i ho
      intro A' Q' E' s' k q
      unfold isType loadHead
      exact wpAny_bind (wpAny_loadPart (k _ _ (X _ _ ho)) (wpAny_pure q))
    · cases hc
  ne := fun h tp dd its n sl X ht => by
    obtain ⟨c, hc, _⟩ := any_some hp
    refine Bool.eq_false_iff.mpr fun q => ?_
    have e : D = tp := Value.ref.inj (beq_iff_eq.mp q)
    subst e
    unfold clsIn at hc
    split at hc
    · rename_i ho
      have z := (X _ _ ho).symm.trans ht
      cases z
    · cases hc
  ca := fun X I k => xc_class X I hp hga hgn ha hn htk hm k
end
end Px
namespace L2
open PySem PySem.Spec PyProof.Rows Px
/-- what isinstance wants of an error's class -/
structure XKind (K : PySem.W.Frag) (C : Addr) : Prop where
  cl : XCls K C
  ha : PySem.W.findIn K (.ref C) "__class__" = some (some (.builtin "object.__class__"))
  hn : PySem.W.specialIn K (.builtin "object.__class__") "__get__" = some (some (.builtin "getset_descriptor.__get__"))
  ht : PySem.W.takesIn K (.builtin "object.__class__") = some true
  hm : PySem.W.mroIn K C (.type "object") = some true
section
variable {X : Cx} {pins : List (Addr × Obj)} {σ : St} {H : Hp} {s : Shared} {a C : Addr} {od : Option Addr} {fr : Bool}
theorem exO_kit (I : Inv X pins σ H s) (e : H a = some (exO a C od fr)) (k : XKind X.K C) (hd : ∀ d, od = some d → ∃ l, H d = some (xdO d l)) : ∃ Z : Heap → Prop, PySem.W.KitX X.K (.ref a) (.ref C) Z ∧ Z s.heap := by
  obtain ⟨vs, sl, ge, _⟩ := exO_get I.hok e
  cases od with
  | none => exact ⟨_, kitx_exc (od := none) k.cl.ov k.cl.ga k.cl.gn k.ha k.hn k.ht k.hm, ⟨ge, rfl, rfl, trivial⟩⟩
  | some d =>
    obtain ⟨l, ed⟩ := hd d rfl
    obtain ⟨mA, ns, _, _⟩ := xdO_get I.hok ed
    obtain ⟨ob, hob, _⟩ := lookIn_ns ns
    exact ⟨_, kitx_exc (od := some ob) k.cl.ov k.cl.ga k.cl.gn k.ha k.hn k.ht k.hm, ⟨ge, rfl, rfl, hob⟩⟩
/-- isinstance(e, C), isinstance(e, (C, ..)) of an error e -/
def rInstX (K : PySem.W.Frag) : List V → Hp → VK → Prop := fun xs H Q => ∃ a C od fr y b, xs = [.ref a, y] ∧ H a = some (exO a C od fr) ∧ XKind K C ∧ (∀ d, od = some d → ∃ l, H d = some (xdO d l)) ∧ Q (.bl b) H ∧
  ((∃ c, (y = .ty c ∧ PySem.W.kitOne K (.ref C) (.type c) = some b)) ∨ (∃ c, (y = .ref c ∧ PySem.W.kitOne K (.ref C) (.ref c) = some b)) ∨ ∃ p ts, y = .ref p ∧ H p = some (.tup ts) ∧ Clss ts ∧ PySem.W.kitAny K (.ref C) (ts.map clsV) = some b)
theorem call_isinstX : CallR X (.builtin "isinstance") (rInstX X.K) := by
  intro pins s σ H xs us Q I r h
  obtain ⟨a, C, od, fr, y, b, rfl, ea, k, hd, q, hy⟩ := h
  obtain ⟨u, w', rfl, ru, rw'⟩ := vals2 r
  cases (show u = Value.ref a from ru)
  obtain ⟨Z, kx, z⟩ := exO_kit I ea k hd
  rcases hy with ⟨c, rfl, e⟩ | ⟨c, rfl, e⟩ | ⟨p, ts, rfl, ep, cl, e⟩
  · cases (show w' = Value.type c from rw')
    exact PySem.W.kia_one kx I.kIn z e (fun y => nomatch y) fun tk => ⟨.bl b, H, I.tok tk, rfl, q⟩
  · cases (show w' = Value.ref c from rw')
    exact PySem.W.kia_one kx I.kIn z e (fun y => nomatch y) fun tk => ⟨.bl b, H, I.tok tk, rfl, q⟩
  · cases (show w' = Value.ref p from rw')
    obtain ⟨_, its, vs, o, h1, h2, n, h3⟩ := (show ObjOk X.prog X.w H s.heap p (.tup ts) from I.hok p _ ep)
    have ei := clss_vals cl vs
    obtain ⟨c0, d0, dt, sl⟩ := o
    dsimp only at h2 h3
    subst h2; subst h3
    exact PySem.W.kia_tup kx I.kIn z h1 (by rw [ei]; exact e) (fun y => nomatch y) fun tk => ⟨.bl b, H, I.tok tk, rfl, q⟩
end
/-! try without «as» -/
section
variable {X : Cx} {x n : Str} {cv : Value} {body suite : List Stmt} {b₀ : Stmt} {np hpos pos : Pos} {tb : (St → XK) → TS} {ts : TS}
end
end L2
set_option Elab.async false
set_option linter.all false
set_option maxRecDepth 100000
namespace L2
open PySem PySem.Spec PyProof.Rows
/-! a comprehension that has two names of the def around it -/
section
variable {X : Cx} {x y1 y2 : Str} {scope : Scope} {j1 j2 : Nat} {c1 c2 : Addr}
end
end L2
set_option Elab.async false
set_option linter.all false
set_option maxRecDepth 100000
set_option maxHeartbeats 4000000
namespace L2
open PySem PySem.Spec PyProof.Rows
section
variable {P : Program} {W : World} {A : Around} {E : Value → Shared → Prop} {z : Shared}
/-! ### one draw from a tuple's iterator, within a zip -/
/-- the records of a zip of the tuples at p and q -/
structure ZSt (g : Heap) (y a o i k p q : Addr) (n : Nat) (xs us : Array Value) (f : Value) : Prop where
  zp : IsZip g y a o f
  its : IsPair g a (.ref i) (.ref k)
  own : ∃ b c, IsPair g o b c
  i1 : g.IsTupleIter i p n
  i2 : g.IsTupleIter k q n
  t1 : g.IsTuple p xs
  t2 : g.IsTuple q us
abbrev tz1 (g : Heap) (p : Addr) : Heap := g.push { cls := .type "tuple_iterator", data := .fields #[.ref p, .int 0 0] }
abbrev tz2 (g : Heap) (p q : Addr) : Heap := (tz1 g p).push { cls := .type "tuple_iterator", data := .fields #[.ref q, .int 0 0] }
abbrev tz3 (g : Heap) (p q : Addr) : Heap := (tz2 g p q).push { cls := .type "tuple", data := .seq #[.ref g.objs.size, .ref (tz1 g p).objs.size] }
abbrev tz4 (g : Heap) (p q : Addr) : Heap := (tz3 g p q).push { cls := .type "tuple", data := .seq #[.none, .none] }
abbrev tz5 (g : Heap) (p q : Addr) : Heap := (tz4 g p q).push { cls := .type "zip", data := .fields #[.none, .bool false, .bool false, .ref (tz2 g p q).objs.size, .ref (tz3 g p q).objs.size] }
end
/-! ### for a, b in zip(t, u) -/
structure ZI (g : Heap) (y a o i k p q : Addr) (n : Nat) (f : Value) : Prop where
  zp : IsZip g y a o f
  its : IsPair g a (.ref i) (.ref k)
  own : ∃ b c, IsPair g o b c
  i1 : g.IsTupleIter i p n
  i2 : g.IsTupleIter k q n
/-- both tuples, turn by turn: a new pair -/
def Itz (K : PySem.W.Frag) (p q : Addr) (xs us : List V) : It :=
  ⟨fun n H => SqT K H p xs ∧ SqT K H q us ∧ n < min xs.length us.length, fun n H v H' => ∃ (T : Addr) (x u : V), H T = none ∧ xs[n]? = some x ∧ us[n]? = some u ∧ v = .ref T ∧ H' = upd H T (.tup [x, u]), fun n H => SqT K H p xs ∧ SqT K H q us ∧ min xs.length us.length ≤ n⟩
section
variable {X : Cx}
def iZip (K : PySem.W.Frag) (ta : TA) : TI := fun σ H R => ta σ H fun vs H1 => ∃ (p q : Addr) (xs us : List V), vs = [.ref p, .ref q] ∧ SqT K H1 p xs ∧ SqT K H1 q us ∧ R (Itz K p q xs us) H1
end
end L2
set_option Elab.async false
set_option linter.all false
set_option maxRecDepth 100000
set_option maxHeartbeats 4000000
namespace Pv
open PySem L2
/-! ### things are alike -/
mutual
def eqT : Th → Th → Bool
  | .non, .non => true
  | .int a, .int b => a == b
  | .str a, .str b => a == b
  | .tup a, .tup b => eqL a b
  | _, _ => false
def eqL : List Th → List Th → Bool
  | [], [] => true
  | t :: r, u :: q => eqT t u && eqL r q
  | _, _ => false
end
mutual
theorem eqT_iff : ∀ t u : Th, eqT t u = true ↔ t = u
  | .non, .non => by simp [eqT]
  | .non, .int _ => by simp [eqT]
  | .non, .str _ => by simp [eqT]
  | .non, .tup _ => by simp [eqT]
  | .int _, .non => by simp [eqT]
  | .int a, .int b => by simp [eqT]
  | .int _, .str _ => by simp [eqT]
  | .int _, .tup _ => by simp [eqT]
  | .str _, .non => by simp [eqT]
  | .str _, .int _ => by simp [eqT]
  | .str a, .str b => by simp [eqT]
  | .str _, .tup _ => by simp [eqT]
  | .tup _, .non => by simp [eqT]
  | .tup _, .int _ => by simp [eqT]
  | .tup _, .str _ => by simp [eqT]
  | .tup a, .tup b => by
    have := eqL_iff a b
    simp [eqT, this]
theorem eqL_iff : ∀ a b : List Th, eqL a b = true ↔ a = b
  | [], [] => by simp [eqL]
  | [], _ :: _ => by simp [eqL]
  | _ :: _, [] => by simp [eqL]
  | t :: r, u :: q => by
    have h1 := eqT_iff t u
    have h2 := eqL_iff r q
    simp [eqL, h1, h2]
end
theorem eqT_refl (t : Th) : eqT t t = true := (eqT_iff t t).mpr rfl
theorem eqL_range : ∀ a b : List Th, eqL a b = ((List.range (min a.length b.length)).all (fun j => eqT (a[j]?.getD .non) (b[j]?.getD .non)) && a.length == b.length)
  | [], [] => rfl
  | [], _ :: _ => by simp [eqL]
  | _ :: _, [] => by simp [eqL]
  | t :: r, u :: q => by
    have h := eqL_range r q
    show (eqT t u && eqL r q) = _
    rw [h, List.length_cons, List.length_cons, Nat.succ_min_succ, List.range_succ_eq_map, List.all_cons, List.all_map]
    have e : (fun j => eqT ((t :: r)[j]?.getD .non) ((u :: q)[j]?.getD .non)) ∘ Nat.succ = fun j => eqT (r[j]?.getD .non) (q[j]?.getD .non) := by
      funext j
      simp
    rw [e]
    have e2 : (r.length + 1 == q.length + 1) = (r.length == q.length) := by
      rw [Bool.eq_iff_iff]; simp
    rw [e2, Bool.and_assoc]
    rfl
theorem Rep.inj {H : Hp} {t u : Th} {v : V} (r : Rep H t v) (q : Rep H u v) : t = u := by
  induction r generalizing u with
  | non => cases q; rfl
  | int i => cases q; rfl
  | str x => cases q; rfl
  | @tup a xs ts e l h ih =>
    cases q with
    | @tup _ ys us e' l' h' =>
      rw [e] at e'
      cases e'
      refine congrArg Th.tup (List.ext_getElem? fun i => ?_)
      by_cases hi : i < xs.length
      · have h1 : ts[i]? = some ts[i] := List.getElem?_eq_getElem (by omega)
        have h2 : us[i]? = some us[i] := List.getElem?_eq_getElem (by omega)
        rw [h1, h2, ih i xs[i] ts[i] (List.getElem?_eq_getElem hi) h1 (h' i xs[i] us[i] (List.getElem?_eq_getElem hi) h2)]
      · rw [List.getElem?_eq_none (by omega), List.getElem?_eq_none (by omega)]
open PySem.SeqAt in
section
variable {X : Cx} {pins : List (Addr × Obj)} {σ : L2.St} {H : Hp} {s : Shared}
theorem items_eq (I : Inv X pins σ H s) {a b : Addr} {xs ys : List V} {ts us : List Th} {A : Around} (e : H a = some (.tup xs)) (e' : H b = some (.tup ys)) (l : xs.length = ts.length) (l' : ys.length = us.length)
    (ih : ∀ (j : Nat) (x y : V) (t u : Th) (vx vy : Value), xs[j]? = some x → ys[j]? = some y → ts[j]? = some t → us[j]? = some u → RelV x vx → RelV y vy → EqAt A.in1 s vx vy (eqT t u)) :
    ∃ its jts : List Value, s.heap.IsTuple a its.toArray ∧ s.heap.IsTuple b jts.toArray ∧ its.length = ts.length ∧ jts.length = us.length ∧
      ∀ j (h1 : j < its.toArray.size) (h2 : j < jts.toArray.size), EqAt A.in1 s its.toArray[j] jts.toArray[j] (eqT (ts[j]?.getD .non) (us[j]?.getD .non)) := by
  obtain ⟨its, r1, T1, _⟩ := I.tuple (SqT.of e)
  obtain ⟨jts, r2, T2, _⟩ := I.tuple (SqT.of e')
  have n1 := r1.length
  have n2 := r2.length
  refine ⟨its, jts, T1, T2, by omega, by omega, fun j h1 h2 => ?_⟩
  have h1' : j < its.length := by simpa using h1
  have h2' : j < jts.length := by simpa using h2
  obtain ⟨vx, ex, rx⟩ := r1.get (List.getElem?_eq_getElem (show j < xs.length by omega))
  obtain ⟨vy, ey, ry⟩ := r2.get (List.getElem?_eq_getElem (show j < ys.length by omega))
  have g1 : ts[j]? = some ts[j] := List.getElem?_eq_getElem (by omega)
  have g2 : us[j]? = some us[j] := List.getElem?_eq_getElem (by omega)
  have q := ih j _ _ _ _ vx vy (List.getElem?_eq_getElem (show j < xs.length by omega)) (List.getElem?_eq_getElem (show j < ys.length by omega)) g1 g2 rx ry
  rw [g1, g2]
  have z1 : its.toArray[j] = vx := by
    have : its[j]? = some its[j] := List.getElem?_eq_getElem h1'
    rw [this] at ex
    simpa using Option.some.inj ex
  have z2 : jts.toArray[j] = vy := by
    have : jts[j]? = some jts[j] := List.getElem?_eq_getElem h2'
    rw [this] at ey
    simpa using Option.some.inj ey
  rw [z1, z2]
  exact q
theorem eqAt_T (I : Inv X pins σ H s) {t : Th} {x : V} (r : Rep H t x) : ∀ {u : Th} {y : V} {vx vy : Value} {A : Around}, Rep H u y → RelV x vx → RelV y vy → A.units + dep t + 1 < cLine → EqAt A s vx vy (eqT t u) := by
  induction r with
  | non =>
    intro u y vx vy A q rx ry hu
    cases (show vx = Value.none from rx)
    cases q with
    | non => cases (show vy = Value.none from ry); exact EqAt.same _
    | int i => obtain ⟨k, rfl⟩ := ry; exact EqAt.none_int i k
    | str z => obtain ⟨k, rfl⟩ := ry; exact EqAt.none_str z k
    | tup e l h =>
      cases (show vy = Value.ref _ from ry)
      obtain ⟨its, _, T, _⟩ := I.tuple (SqT.of e)
      exact EqAt.none_tuple T (by omega)
  | int a =>
    intro u y vx vy A q rx ry hu
    obtain ⟨k1, rfl⟩ := rx
    cases q with
    | non => cases (show vy = Value.none from ry); exact EqAt.int_none a k1
    | int i => obtain ⟨k, rfl⟩ := ry; exact EqAt.int_int a k1 i k
    | str z => obtain ⟨k, rfl⟩ := ry; exact EqAt.int_str a k1 z k
    | tup e l h =>
      cases (show vy = Value.ref _ from ry)
      obtain ⟨its, _, T, _⟩ := I.tuple (SqT.of e)
      exact EqAt.int_tuple a k1 T (by omega)
  | str a =>
    intro u y vx vy A q rx ry hu
    obtain ⟨k1, rfl⟩ := rx
    cases q with
    | non => cases (show vy = Value.none from ry); exact EqAt.str_none a k1
    | int i => obtain ⟨k, rfl⟩ := ry; exact EqAt.str_int a k1 i k
    | str z => obtain ⟨k, rfl⟩ := ry; exact EqAt.str_str a k1 z k
    | tup e l h =>
      cases (show vy = Value.ref _ from ry)
      obtain ⟨its, _, T, _⟩ := I.tuple (SqT.of e)
      exact EqAt.str_tuple a k1 T (by omega)
  | @tup a xs ts e l h ih =>
    intro u y vx vy A q rx ry hu
    cases (show vx = Value.ref a from rx)
    cases q with
    | non =>
      cases (show vy = Value.none from ry)
      obtain ⟨its, _, T, _⟩ := I.tuple (SqT.of e)
      exact EqAt.tuple_none T (by omega)
    | int i =>
      obtain ⟨k, rfl⟩ := ry
      obtain ⟨its, _, T, _⟩ := I.tuple (SqT.of e)
      exact EqAt.tuple_int i k T (by omega)
    | str z =>
      obtain ⟨k, rfl⟩ := ry
      obtain ⟨its, _, T, _⟩ := I.tuple (SqT.of e)
      exact EqAt.tuple_str z k T (by omega)
    | @tup b ys us e' l' h' =>
      cases (show vy = Value.ref b from ry)
      by_cases hab : a = b
      · subst hab
        have z := Rep.inj (Rep.tup e l h) (Rep.tup e' l' h')
        rw [← z, eqT_refl]
        exact EqAt.same _
      · have hd : dep (.tup ts) = depL ts + 1 := rfl
        obtain ⟨its, jts, T1, T2, n1, n2, q⟩ := items_eq (A := A) I e e' l l' fun j x y t u vx vy h1 h2 h3 h4 rx ry => ih j x t h1 h3 (h' j y u h2 h4) rx ry (by
          have := depL_get h3
          show A.units + 1 + dep t + 1 < cLine
          omega)
        have R := RcAt.tuples T1 T2 (show A.units < cLine by omega) q
        have e3 : ((List.range (min its.toArray.size jts.toArray.size)).all (fun j => eqT (ts[j]?.getD .non) (us[j]?.getD .non)) && its.toArray.size == jts.toArray.size) = eqT (.tup ts) (.tup us) := by
          show _ = eqL ts us
          rw [eqL_range, List.size_toArray, List.size_toArray, n1, n2]
        rw [e3] at R
        exact EqAt.of_refs hab R
theorem rc_T (I : Inv X pins σ H s) {t u : Th} {x y : V} {vx vy : Value} {A : Around} (r : Rep H t x) (q : Rep H u y) (rx : RelV x vx) (ry : RelV y vy) (hu : A.units + dep t + 1 < cLine) : RcAt A s vx vy (eqT t u) ∧ RcNeAt A s vx vy (!eqT t u) := by
  cases r with
  | non =>
    cases (show vx = Value.none from rx)
    cases q with
    | non => cases (show vy = Value.none from ry); exact ⟨RcAt.none_none, RcNeAt.none_none⟩
    | int i => obtain ⟨k, rfl⟩ := ry; exact ⟨RcAt.none_int i k, RcNeAt.none_int i k⟩
    | str z => obtain ⟨k, rfl⟩ := ry; exact ⟨RcAt.none_str z k, RcNeAt.none_str z k⟩
    | tup e l h =>
      cases (show vy = Value.ref _ from ry)
      obtain ⟨its, _, T, _⟩ := I.tuple (SqT.of e)
      exact ⟨RcAt.none_tuple T (by omega), RcNeAt.none_tuple T (by omega)⟩
  | int a =>
    obtain ⟨k1, rfl⟩ := rx
    cases q with
    | non => cases (show vy = Value.none from ry); exact ⟨RcAt.int_none a k1, RcNeAt.int_none a k1⟩
    | int i => obtain ⟨k, rfl⟩ := ry; exact ⟨RcAt.int_int a k1 i k, RcNeAt.int_int a k1 i k⟩
    | str z => obtain ⟨k, rfl⟩ := ry; exact ⟨RcAt.int_str a k1 z k, RcNeAt.int_str a k1 z k⟩
    | tup e l h =>
      cases (show vy = Value.ref _ from ry)
      obtain ⟨its, _, T, _⟩ := I.tuple (SqT.of e)
      exact ⟨RcAt.int_tuple a k1 T (by omega), RcNeAt.int_tuple a k1 T (by omega)⟩
  | str a =>
    obtain ⟨k1, rfl⟩ := rx
    cases q with
    | non => cases (show vy = Value.none from ry); exact ⟨RcAt.str_none a k1, RcNeAt.str_none a k1⟩
    | int i => obtain ⟨k, rfl⟩ := ry; exact ⟨RcAt.str_int a k1 i k, RcNeAt.str_int a k1 i k⟩
    | str z => obtain ⟨k, rfl⟩ := ry; exact ⟨RcAt.str_str a k1 z k, RcNeAt.str_str a k1 z k⟩
    | tup e l h =>
      cases (show vy = Value.ref _ from ry)
      obtain ⟨its, _, T, _⟩ := I.tuple (SqT.of e)
      exact ⟨RcAt.str_tuple a k1 T (by omega), RcNeAt.str_tuple a k1 T (by omega)⟩
  | @tup a xs ts e l h =>
    cases (show vx = Value.ref a from rx)
    cases q with
    | non =>
      cases (show vy = Value.none from ry)
      obtain ⟨its, _, T, _⟩ := I.tuple (SqT.of e)
      exact ⟨RcAt.tuple_none T (by omega), RcNeAt.tuple_none T (by omega)⟩
    | int i =>
      obtain ⟨k, rfl⟩ := ry
      obtain ⟨its, _, T, _⟩ := I.tuple (SqT.of e)
      exact ⟨RcAt.tuple_int i k T (by omega), RcNeAt.tuple_int i k T (by omega)⟩
    | str z =>
      obtain ⟨k, rfl⟩ := ry
      obtain ⟨its, _, T, _⟩ := I.tuple (SqT.of e)
      exact ⟨RcAt.tuple_str z k T (by omega), RcNeAt.tuple_str z k T (by omega)⟩
    | @tup b ys us e' l' h' =>
      cases (show vy = Value.ref b from ry)
      have hd : dep (.tup ts) = depL ts + 1 := rfl
      obtain ⟨its, jts, T1, T2, n1, n2, q⟩ := items_eq (A := A) I e e' l l' fun j x y t u vx vy h1 h2 h3 h4 rx ry => eqAt_T I (h j x t h1 h3) (h' j y u h2 h4) rx ry (by
          have := depL_get h3
          show A.units + 1 + dep t + 1 < cLine
          omega)
      have e3 : ((List.range (min its.toArray.size jts.toArray.size)).all (fun j => eqT (ts[j]?.getD .non) (us[j]?.getD .non)) && its.toArray.size == jts.toArray.size) = eqT (.tup ts) (.tup us) := by
        show _ = eqL ts us
        rw [eqL_range, List.size_toArray, List.size_toArray, n1, n2]
      have R := RcAt.tuples T1 T2 (show A.units < cLine by omega) q
      have R' := RcNeAt.tuples T1 T2 (show A.units < cLine by omega) q
      rw [e3] at R R'
      exact ⟨R, R'⟩
end
section
variable {X : Cx}
/-- t == u, t != u of things -/
theorem op_eqTh {k : Nat} (hr : Room k X.A) : OpR X (compareOp .Eq) (fun x y H Q => ∃ t u, Rep H t x ∧ Rep H u y ∧ dep t ≤ 50 ∧ Q (.bl (eqT t u)) H) := by
  intro pins s σ H x y v w Q I rx ry h
  obtain ⟨t, u, r1, r2, hd, q⟩ := h
  have hu := hr.units
  exact (rc_T I r1 r2 rx ry (by omega)).1 _ _ _ _ ⟨.bl _, H, I, rfl, q⟩
end
end Pv
set_option Elab.async false
set_option linter.all false
set_option maxRecDepth 100000
set_option maxHeartbeats 4000000
namespace L2
open PySem PySem.Spec PyProof.Rows
/-- the keys of a dict of whole numbers -/
def keysI (kvs : List (Key × V)) : List Int := kvs.filterMap fun p => match p.1 with | .inl n => some n | .inr _ => none
/-- all keys are whole numbers -/
def IntKeys (kvs : List (Key × V)) : Prop := kvs.map (·.1) = (keysI kvs).map Sum.inl
theorem KV.at {kvs : List (Key × V)} {vs : List (Key × Value)} (r : KV kvs vs) : kvs.length = vs.length ∧ kvs.map (·.1) = vs.map (·.1) := by
  unfold KV at r
  induction r with
  | nil => exact ⟨rfl, rfl⟩
  | cons h _ ih => exact ⟨by simp [ih.1], by simp [ih.2, h.1]⟩
section
variable {X : Cx}
end
end L2
set_option Elab.async false
set_option linter.all false
set_option maxRecDepth 100000
set_option maxHeartbeats 4000000
namespace L2
open PySem PySem.Spec PyProof.Rows
section
open PySem.SeqAt
open PySem.AutoSeq1 (wpAny_loadPart')
open PySem.MeetsSeq PySem.MeetsSeq2 PySem.MeetsSeq3
end
section
variable {X : Cx}
def rLtL (K : PySem.W.Frag) : R2 := fun x y H Q => ∃ (a b : Addr) (ns ms : List Int), x = .ref a ∧ y = .ref b ∧ H a = some (.lst (ns.map V.int)) ∧ H b = some (.lst (ms.map V.int)) ∧ Q (.bl (HT.lexLt ns ms)) H
end
end L2
set_option Elab.async false
set_option linter.all false
set_option maxRecDepth 100000
set_option maxHeartbeats 4000000
namespace L2
open PySem PySem.Spec PyProof.Rows
section
open PySem.AutoSeq1 (wpAny_loadPart')
theorem noFill_tup : fillsNumberSlot (.type "tuple") "mul" = pure false :=
  PySem.fillsNumberSlot_seq (id := "tuple.__mul__") (r := some (.builtin "tuple.__rmul__")) F.slot_tuple_mul.lookup (by decide +kernel) F.slot_tuple_rmul.lookup (by decide +kernel)
theorem rep_tup : seqRepeat? (.type "tuple") = pure (some (.builtin "tuple.__mul__")) := by
  unfold seqRepeat?; rw [PySem.seqSlot_of (T := "tuple") (name := "__mul__") (id := "tuple.__mul__") F.slot_tuple_mul.lookup (by decide +kernel), PySem.seqSlot_of (T := "tuple") (name := "__rmul__") (id := "tuple.__rmul__") F.slot_tuple_rmul.lookup (by decide +kernel)]; rfl
theorem rmul_tup (a : Int) (t : Tok) (p : Addr) (us : Array Value) (n : Nat) (dd : Option Addr) (sl : Array (Option Value)) :
    Meets (Builtin.«int.__rmul__» ⟨[.int a t, .ref p], []⟩) (fun _ R s => s.heap.get? p = some { cls := .type "tuple", dict := dd, data := .seq us n, slots := sl } ∧ R (.ok (.ret Value.notImplemented)) s) :=
  .of_wp fun prog w A R s h => by obtain ⟨hp, g, d, tk, os⟩ := s; obtain ⟨hl, h⟩ := h; wp_walk; exact ⟨_, rfl, h⟩
/-- (v,) * n, n from 2 on -/
theorem mul_tup (p : Addr) (v : Value) (n : Nat) (dd : Option Addr) (sl : Array (Option Value)) (k : Int) (u : Tok) (h2 : 2 ≤ k) (h3 : k ≤ 1000) :
    Meets (Builtin.«tuple.__mul__» ⟨[.ref p, .int k u], []⟩) (fun _ R s => s.heap.get? p = some { cls := .type "tuple", dict := dd, data := .seq #[v] n, slots := sl } ∧
      R (.ok (.ret (Value.ref s.heap.objs.size))) { s with heap := s.heap.push { cls := .type "tuple", data := .seq (List.replicate k.toNat v).toArray } }) :=
  .of_wp fun prog w A R s h => by
    obtain ⟨hp, g, d, tk, os⟩ := s; obtain ⟨hl, h⟩ := h
    have c1 : ¬ (decide (k < -(2 ^ 63)) || decide (k ≥ 2 ^ 63)) = true := by simp; omega
    have c2 : ¬ ((#[v] : Array Value).isEmpty || k == 1) = true := by simp; omega
    have c3 : ¬ (decide (k ≤ 0) || (#[v] : Array Value).isEmpty) = true := by simp; omega
    have c4 : ¬ (((#[v] : Array Value).size : Int) * k > (2 ^ 63 - 1) / 8) := by simp; omega
    have c5 : ¬ Builtin.Tuple.tupleTooMany (((#[v] : Array Value).size : Int) * k) = true := by
      unfold Builtin.Tuple.tupleTooMany
      have : (1000 : Int) ≤ (sizeLine : Int) := by rw [sizeLine_eq]; decide
      simp; omega
    have e : (List.replicate k.toNat #[v]).foldl (fun x1 x2 => x1 ++ x2) #[] = (List.replicate k.toNat v).toArray := by
      have := foldl_rep [v] k.toNat []
      rw [List.nil_append] at this
      rw [this]
      congr 1
      induction k.toNat with
      | zero => rfl
      | succ m ih => rw [List.replicate_succ, List.flatten_cons, ih, List.replicate_succ]; rfl
    have sz : sizeOk (.seq (List.replicate k.toNat v).toArray) := by
      show (List.replicate k.toNat v).toArray.size ≤ sizeLine
      rw [List.size_toArray, List.length_replicate, sizeLine_eq]; omega
    wp_walk using wpAny_loadPart' hl
    rw [if_neg c1]
    wp_walk using wpAny_loadPart' hl
    rw [if_neg c2]
    wp_walk
    rw [if_neg c3]
    wp_walk
    rw [if_neg c4]
    wp_walk
    rw [if_neg c5]
    rw [e]
    refine wpAny_bind (wpAny_newObj_type ?_ sz)
    exact wpAny_pure ⟨_, rfl, h⟩
end
section
variable {X : Cx}
def rRepT : R2 := fun x y H Q => ∃ (p : Addr) (k : Int) (v : V), x = .ref p ∧ y = .int k ∧ H p = some (.tup [v]) ∧ 2 ≤ k ∧ k ≤ 1000 ∧ ∀ r, H r = none → Q (.ref r) (upd H r (.tup (List.replicate k.toNat v)))
theorem vals_rep {v : V} {u : Value} (r : RelV v u) : ∀ n : Nat, Vals (List.replicate n v) (List.replicate n u)
  | 0 => .nil
  | n + 1 => .cons r (vals_rep r n)
theorem op_repT : OpR X (binaryOp .Mult) rRepT := by
  intro pins s σ H x y v u Q I rx ry h
  obtain ⟨p, k, v0, rfl, rfl, hp, h2, h3, q⟩ := h
  cases (show v = Value.ref p from rx)
  obtain ⟨t, rfl⟩ := ry
  obtain ⟨its, r1, T, z⟩ := I.tuple (SqT.of hp)
  obtain ⟨u0, rfl, r0⟩ := vals1 r1
  obtain ⟨⟨cls, dd, data, sl⟩, e, hc, n, hd⟩ := id T
  simp only at hc hd
  subst hc hd
  refine wpAny_binaryOp_repeat_ref (T := "tuple") (U := "int") (by decide) ⟨_, e, rfl⟩ (fun s' => typeIs_int s' k t) noFill_tup F.fills_int_mul F.slot_int_rmul rep_tup F.slot_int_index.lookup
    (call_meets F.slot_int_rmul (typeIs_int s k t) F.entry_int_rmul (F.args_int_rmul_2 _ _) (rmul_tup k t p _ n dd sl) ⟨e, rfl, ⟨_, e, rfl⟩, call_meets F.slot_tuple_mul ⟨_, e, rfl⟩ F.entry_tuple_mul (F.args_tuple_mul_2 _ _) (mul_tup p u0 n dd sl k t h2 h3) ⟨e, ?_⟩⟩)
  refine ⟨.ref s.heap.objs.size, _, I.laid (t' := s.toks) (o := .tup (List.replicate k.toNat v0)) (fun b ob q => Heap.get?_push_of_some _ q) (Nat.le_refl _) ?_, rfl, q _ (I.hok.fresh (Nat.le_refl _))⟩
  exact ⟨by rw [List.length_replicate, sizeLine_eq]; omega, _, vals_rep r0 _, ⟨_, Heap.get?_push_size _ rfl, rfl, _, rfl⟩⟩
/-- t + u, of any two tuples; an empty one's other is told itself -/
def rCatAny (K : PySem.W.Frag) : R2 := fun x y H Q => ∃ (a b : Addr) (xs ys : List V), x = .ref a ∧ y = .ref b ∧ H a = some (.tup xs) ∧ H b = some (.tup ys) ∧ xs.length + ys.length ≤ sizeLine ∧
  ∀ (r : Addr) (H' : Hp), Same H H' → H' r = some (.tup (xs ++ ys)) → Q (.ref r) H'
theorem op_catAny : OpR X (binaryOp .Add) (rCatAny X.K) := by
  intro pins s σ H x y v u Q I rx ry h
  obtain ⟨a, b, xs, ys, rfl, rfl, ha, hb, hz, q⟩ := h
  by_cases hx : xs = []
  · subst hx
    cases (show v = Value.ref a from rx)
    cases (show u = Value.ref b from ry)
    obtain ⟨its, r1, T1, z1⟩ := I.tuple (SqT.of ha)
    obtain ⟨jts, r2, T2, z2⟩ := I.tuple (SqT.of hb)
    have e1 : its = [] := by cases r1; rfl
    subst e1
    obtain ⟨⟨cls, dd, data, sl⟩, o1, hc, n, hd⟩ := id T1
    obtain ⟨⟨cls2, dd2, data2, sl2⟩, o2, hc2, n2, hd2⟩ := id T2
    simp only at hc hd hc2 hd2
    subst hc hd hc2 hd2
    exact concat_meets ⟨_, o1, rfl⟩ ⟨_, o2, rfl⟩ noFill_tuple_add seq_tuple_add PySem.F.slot_tuple_add PySem.F.entry_tuple_add (PySem.F.args_tuple_add_2 _ _) (tuple_addW0 a b _ _ n n2 dd dd2 sl sl2 (by simp)) ⟨o1, o2, ⟨.ref b, H, I, rfl, q b H (Same.refl _) (by simpa using hb)⟩⟩
  · refine op_catT pins s σ H _ _ v u Q I rx ry ⟨a, b, xs, ys, rfl, rfl, SqT.of ha, SqT.of hb, hx, hz, fun hy => q a H (Same.refl _) (by rw [hy, List.append_nil]; exact ha), fun _ p hp => q p _ (fun c o hc => ?_) upd_same⟩
    rw [upd_ne (ne_of_none hc hp)]; exact hc
end
end L2
set_option Elab.async false
set_option linter.all false
set_option maxRecDepth 100000
set_option maxHeartbeats 4000000
namespace Pv
open PySem L2
inductive RepL (H : Hp) : List Th → List V → Prop where
  | nil : RepL H [] []
  | cons {t : Th} {v : V} {ts : List Th} {vs : List V} (h : Rep H t v) (r : RepL H ts vs) : RepL H (t :: ts) (v :: vs)
theorem RepL.len {H : Hp} : ∀ {ts : List Th} {vs : List V}, RepL H ts vs → vs.length = ts.length
  | _, _, .nil => rfl
  | _, _, .cons _ r => by rw [List.length_cons, List.length_cons, r.len]
theorem RepL.at {H : Hp} : ∀ {ts : List Th} {vs : List V}, RepL H ts vs → ∀ (i : Nat) (x : V) (t : Th), vs[i]? = some x → ts[i]? = some t → Rep H t x
  | _, _, .nil, i, x, t, e, _ => by simp at e
  | _, _, .cons h r, 0, x, t, e1, e2 => by
    simp at e1 e2
    subst e1; subst e2
    exact h
  | _, _, .cons h r, i + 1, x, t, e1, e2 => r.at i x t (by simpa using e1) (by simpa using e2)
theorem RepL.keep {H H' : Hp} (k : Tups H H') : ∀ {ts : List Th} {vs : List V}, RepL H ts vs → RepL H' ts vs
  | _, _, .nil => .nil
  | _, _, .cons h r => .cons (h.keep k) (r.keep k)
theorem RepL.new {H : Hp} {ts : List Th} {vs : List V} {p : Addr} (r : RepL H ts vs) (hp : H p = none) : Rep (upd H p (.tup vs)) (.tup ts) (.ref p) :=
  .tup upd_same r.len fun i x t e1 e2 => (r.at i x t e1 e2).keep (Tups.new hp)
theorem RepL.of {H : Hp} : ∀ {ts : List Th} {vs : List V}, vs.length = ts.length → (∀ (i : Nat) (x : V) (t : Th), vs[i]? = some x → ts[i]? = some t → Rep H t x) → RepL H ts vs
  | [], [], _, _ => .nil
  | t :: ts, v :: vs, l, h => .cons (h 0 v t rfl rfl) (RepL.of (by simpa using l) fun i x u e1 e2 => h (i + 1) x u (by simpa using e1) (by simpa using e2))
  | [], _ :: _, l, _ => by simp at l
  | _ :: _, [], l, _ => by simp at l
theorem Rep.list {H : Hp} {ts : List Th} {v : V} (r : Rep H (.tup ts) v) : ∃ a xs, v = .ref a ∧ H a = some (.tup xs) ∧ RepL H ts xs := by
  cases r with
  | @tup a xs _ e l h => exact ⟨a, xs, rfl, e, RepL.of l h⟩
theorem RepL.snoc {H : Hp} {t : Th} {v : V} (h : Rep H t v) : ∀ {ts : List Th} {vs : List V}, RepL H ts vs → RepL H (ts ++ [t]) (vs ++ [v])
  | _, _, .nil => .cons h .nil
  | _, _, .cons h' r => .cons h' (r.snoc h)
open PySem.SeqAt in
/-- lists of things, compared -/
theorem rc_Ls {X : Cx} {pins : List (Addr × Obj)} {σ : L2.St} {H : Hp} {s : Shared} (I : Inv X pins σ H s) {a b : Addr} {xs ys : List V} {ts us : List Th} {A : Around} (e : SqL X.K H a xs) (e' : SqL X.K H b ys) (r : RepL H ts xs) (q : RepL H us ys) (hd : ∀ t ∈ ts, dep t ≤ 50) (hu : A.units + 60 < cLine) :
    RcAt A s (.ref a) (.ref b) (eqL ts us) ∧ RcNeAt A s (.ref a) (.ref b) (!eqL ts us) := by
  obtain ⟨its, r1, T1, _⟩ := I.list e
  obtain ⟨jts, r2, T2, _⟩ := I.list e'
  have n1 := r1.length
  have n2 := r2.length
  have l1 := r.len
  have l2 := q.len
  by_cases hl : ts.length = us.length
  · have key : ∀ j (h1 : j < its.toArray.size) (h2 : j < jts.toArray.size), EqAt A.in1 s its.toArray[j] jts.toArray[j] (eqT (ts[j]?.getD .non) (us[j]?.getD .non)) := fun j h1 h2 => by
      have h1' : j < its.length := by simpa using h1
      have h2' : j < jts.length := by simpa using h2
      obtain ⟨vx, ex, rx⟩ := r1.get (List.getElem?_eq_getElem (show j < xs.length by omega))
      obtain ⟨vy, ey, ry⟩ := r2.get (List.getElem?_eq_getElem (show j < ys.length by omega))
      have g1 : ts[j]? = some ts[j] := List.getElem?_eq_getElem (by omega)
      have g2 : us[j]? = some us[j] := List.getElem?_eq_getElem (by omega)
      have dj := hd ts[j] (List.getElem_mem (by omega))
      rw [g1, g2]
      have z1 : its.toArray[j] = vx := by
        have : its[j]? = some its[j] := List.getElem?_eq_getElem h1'
        rw [this] at ex
        simpa using Option.some.inj ex
      have z2 : jts.toArray[j] = vy := by
        have : jts[j]? = some jts[j] := List.getElem?_eq_getElem h2'
        rw [this] at ey
        simpa using Option.some.inj ey
      rw [z1, z2]
      exact eqAt_T I (r.at j _ _ (List.getElem?_eq_getElem (show j < xs.length by omega)) g1) (q.at j _ _ (List.getElem?_eq_getElem (show j < ys.length by omega)) g2) rx ry (by
        show A.units + 1 + dep ts[j] + 1 < cLine
        omega)
    have hsz : its.toArray.size = jts.toArray.size := by rw [List.size_toArray, List.size_toArray]; omega
    have R := RcAt.lists T1.isList T2.isList hsz (show A.units < cLine by omega) key
    have R' := RcNeAt.lists T1.isList T2.isList hsz (show A.units < cLine by omega) key
    have e3 : (List.range its.toArray.size).all (fun j => eqT (ts[j]?.getD .non) (us[j]?.getD .non)) = eqL ts us := by
      rw [eqL_range, List.size_toArray, show min ts.length us.length = its.length by omega, show (ts.length == us.length) = true by rw [hl]; exact beq_self_eq_true _, Bool.and_true]
    rw [e3] at R R'
    exact ⟨R, R'⟩
  · have hne : eqL ts us = false := by
      cases z : eqL ts us with
      | true => exact absurd (congrArg List.length ((eqL_iff ts us).mp z)) hl
      | false => rfl
    have hsz : (its.toArray.size != jts.toArray.size) = true := by
      rw [List.size_toArray, List.size_toArray, bne_iff_ne]
      omega
    rw [hne]
    exact ⟨RcAt.lists_lengths T1.isList T2.isList hsz (by omega), RcNeAt.lists_lengths T1.isList T2.isList hsz (by omega)⟩
section
variable {X : Cx}
/-- xs == ys, xs != ys of lists of things -/
theorem op_eqLs {k : Nat} (hr : Room k X.A) : OpR X (compareOp .Eq) (fun x y H Q => ∃ a b xs ys ts us, x = .ref a ∧ y = .ref b ∧ SqL X.K H a xs ∧ SqL X.K H b ys ∧ RepL H ts xs ∧ RepL H us ys ∧ (∀ t ∈ ts, dep t ≤ 50) ∧ Q (.bl (eqL ts us)) H) := by
  intro pins s σ H x y v w Q I rx ry h
  obtain ⟨a, b, xs, ys, ts, us, rfl, rfl, e1, e2, r1, r2, hd, q⟩ := h
  cases (show v = Value.ref a from rx)
  cases (show w = Value.ref b from ry)
  have hu := hr.units
  exact (rc_Ls I e1 e2 r1 r2 hd (by omega)).1 _ _ _ _ ⟨.bl _, H, I, rfl, q⟩
/-- a text, so many times -/
def mulS (x : Str) (n : Int) : Str := if n < 1 then Str.empty else if (n == 1 || x.length == 0) = true then x else ⟨(List.replicate n.toNat x.cps).foldl (· ++ ·) #[]⟩
theorem op_mulS : OpR X (binaryOp .Mult) (fun x y H Q => ∃ (z : Str) (n : Int), x = .str z ∧ y = .int n ∧ 0 ≤ n ∧ n ≤ 1000 ∧ z.length ≤ 1000 ∧ (mulS z n).length ≤ 1000 ∧ Q (.str (mulS z n)) H) := by
  intro pins s σ H x y v w Q I rx ry h
  obtain ⟨z, n, rfl, rfl, h0, h1, hz, hl, q⟩ := h
  obtain ⟨t1, rfl⟩ := rx
  obtain ⟨t2, rfl⟩ := ry
  have hs : sizeLine = 16777216 := sizeLine_eq
  refine P.mul_str (by rw [decide_eq_false (by omega), decide_eq_false (by omega)]; rfl) (fun a b => ?_) (fun a b => ?_) ?_
  · intro c
    have : (2 ^ 63 - 1 : Int) / n ≥ 1000 := by
      refine Int.le_ediv_of_mul_le (by omega) ?_
      omega
    omega
  · show decide (_ > sizeLine) = false
    refine decide_eq_false ?_
    have : z.length * n.toNat ≤ 1000 * 1000 := Nat.mul_le_mul hz (by omega)
    omega
  · unfold mulS at q hl
    by_cases a : n < 1
    · rw [if_pos a] at q ⊢
      exact ⟨by decide, .str _, H, I.tok _, ⟨_, rfl⟩, q⟩
    · rw [if_neg a] at q hl ⊢
      by_cases b : (n == 1 || z.length == 0) = true
      · rw [if_pos b] at q ⊢
        exact ⟨.str _, H, I, ⟨_, rfl⟩, q⟩
      · rw [if_neg b] at q hl ⊢
        exact ⟨by omega, .str _, H, I.tok _, ⟨_, rfl⟩, q⟩
end
end Pv
set_option Elab.async false
set_option linter.all false
set_option maxRecDepth 100000
set_option maxHeartbeats 4000000
namespace L2
open PySem PySem.Spec PyProof.Rows
section
variable {X : Cx}
/-- max(xs) of a list of numbers -/
theorem call_maxI (hc : X.calm = true) : CallR X (.builtin "max") (fun xs H Q => ∃ (p : Addr) (ns : List Int), xs = [.ref p] ∧ SqL X.K H p (ns.map V.int) ∧ 0 < ns.length ∧ ∀ n : Int, n ∈ ns → (∀ m ∈ ns, m ≤ n) → Q (.int n) H) := by
  intro pins s σ H xs us Q I r h
  obtain ⟨p, ns, rfl, hp, h0, q⟩ := h
  obtain ⟨u, rfl, ru⟩ := vals1 r
  cases (show u = Value.ref p from ru)
  obtain ⟨its, rv, pl, hz⟩ := I.list hp
  have hl := rv.length
  rw [List.length_map] at hl
  have hsz : its.toArray.size = ns.length := by rw [List.size_toArray]; omega
  have hval : ∀ (i : Nat) (v : Value), its.toArray[i]? = some v → ∃ t, v = Value.int (ns[i]?.getD 0) t := fun i v hv => by
    have hv' : its[i]? = some v := by simpa using hv
    have hx : (ns.map V.int)[i]? = some (V.int (ns[i]?.getD 0)) := by
      have hi : i < its.length := (List.getElem?_eq_some_iff.mp hv').1
      rw [List.getElem?_map, List.getElem?_eq_getElem (by omega)]
      rfl
    obtain ⟨u, hu, ⟨t, rfl⟩⟩ := rv.get hx
    rw [hv'] at hu
    cases hu
    exact ⟨t, rfl⟩
  refine call_max_walk (wpAny_pyIter_list pl.isList ?_)
  have plt : p < s.heap.objs.size := by
    obtain ⟨o, e, _⟩ := pl.isList
    exact Heap.lt_size e
  have hne : p ≠ s.heap.objs.size := Nat.ne_of_lt plt
  refine ⟨s.heap.objs.size, [s.heap.objs.size, p], [s.heap.objs.size], its.toArray.size, _, _, _, rfl, Walks.list (A := X.A.in1) (show X.A.in1.handled = none from I.ok.hd hc) s.heap.objs.size p hne its.toArray, ⟨⟨_, Heap.get?_push_size _ rfl, rfl, rfl⟩, pl.isList.at fun o e => Heap.get?_push_of_some _ e⟩, fun b hb => ?_, by omega, CmpOf.ints_gt (fun i => ns[i]?.getD 0) hval, fun v h' tk hP hk => ?_⟩
  · rw [Heap.size_push]
    rcases List.mem_cons.mp hb with rfl | hb
    · exact Nat.lt_succ_self _
    · cases List.mem_singleton.mp hb
      exact Nat.lt_succ_of_lt plt
  · obtain ⟨b1, b2⟩ := argBest_gt (fun i => ns[i]?.getD 0) (its.toArray.size - 1)
    generalize argBest (fun i j => decide (ns[i]?.getD 0 > ns[j]?.getD 0)) (its.toArray.size - 1) = k at b1 b2 hP
    obtain ⟨t, rfl⟩ := hval _ v hP
    have hk' : k < ns.length := by omega
    refine ⟨.int _, H, I.kept fun b o eb => hk b o (fun z => by
      have e := List.mem_singleton.mp z
      have l := Heap.lt_size eb
      rw [e] at l
      exact Nat.lt_irrefl _ l) (Heap.get?_push_of_some _ eb), ⟨_, rfl⟩, q _ ?_ fun m hm => ?_⟩
    · rw [List.getElem?_eq_getElem hk']; exact List.getElem_mem hk'
    · obtain ⟨j, hj, rfl⟩ := List.mem_iff_getElem.mp hm
      have := b2 j (by omega)
      rw [List.getElem?_eq_getElem hj] at this
      exact this
end
end L2
set_option Elab.async false
set_option linter.all false
set_option maxRecDepth 100000
set_option maxHeartbeats 4000000
namespace Pv
open PySem L2
/-! ### comprehensions by their turns -/
theorem comp_it {J : It} {n : Nat} {σ : St} {js : List Nat} {tt : TT} {te : TE} {Q : VK} {H1 : Hp} {p : Addr} (Pv : Nat → List V → Hp → Prop) (h0 : Pv 0 [] (upd H1 p (.lst [])))
    (hg : ∀ i acc H, i < n → Pv i acc H → J.go i H) (ht : ∀ acc H, Pv n acc H → J.stop n H)
    (hs : ∀ i acc H x H', i < n → Pv i acc H → J.yld i H x H' → tt (some x :: frees σ js) H' fun ok H2 =>
      if ok = true then te (some x :: frees σ js) H2 fun y H3 => H3 p = some (.lst acc) ∧ acc.length < sizeLine ∧ ∃ m', m' < n - i ∧ (m' = n - (i + 1) ∧ i + 1 ≤ n ∧ Pv (i + 1) (acc ++ [y]) (upd H3 p (.lst (acc ++ [y]))))
      else ∃ m', m' < n - i ∧ (m' = n - (i + 1) ∧ i + 1 ≤ n ∧ Pv (i + 1) acc H2)) (hd : ∀ acc H, Pv n acc H → Q (.ref p) H) :
    CompW J p σ js tt te H1 Q := by
  refine ⟨fun i m acc H => m = n - i ∧ i ≤ n ∧ Pv i acc H, ⟨n, by simp, Nat.zero_le _, h0⟩, ?_⟩
  rintro i m acc H ⟨rfl, hi, p⟩
  by_cases hlt : i < n
  · exact .inr ⟨hg i acc H hlt p, fun x H' y => hs i acc H x H' hlt p y⟩
  · have e : i = n := by omega
    subst e
    exact .inl ⟨ht acc H p, hd acc H p⟩
theorem nxt {i n : Nat} {C : Prop} (h : i < n) (c : C) : ∃ m', m' < n - i ∧ (m' = n - (i + 1) ∧ i + 1 ≤ n ∧ C) := ⟨_, by omega, rfl, h, c⟩

/-! ### codes -/
def numOf (l : List Nat) : Int := l.foldl (fun (n : Int) (c : Nat) => n * 128 + (c : Int)) 0
def chunk (x : Str) (k : Nat) : List Nat := (x.cps.toList.drop (7 * k)).take 7
def chunkS (x : Str) (k : Nat) : Str := ⟨(chunk x k).toArray⟩
def many7 (x : Str) : Nat := (x.length + 6) / 7
def sevens (x : Str) : List Int := (List.range (many7 x)).map fun k => numOf (chunk x k)
mutual
def codesT : Th → List Int
  | .non => [1]
  | .int n => [2, (n + 10 ^ 30) / 10 ^ 15, (n + 10 ^ 30) % 10 ^ 15]
  | .str x => [3, (x.length : Int)] ++ sevens x
  | .tup ts => [4, (ts.length : Int)] ++ codesL ts
def codesL : List Th → List Int
  | [] => []
  | t :: r => codesT t ++ codesL r
end
/-! ### the law's own sum -/
/-! ### seals -/
def foldS (l : List Int) : Int := l.foldl (fun h c => (h * 1234567890123456789 + c) % 2305843009213693951) 7
def sealT (t : Th) : Int := foldS (codesT t) + 1
end Pv
namespace Pv
end Pv
namespace Pv
open L2
theorem tt1 {σ : L2.St} {H : Hp} {A B : Hp → Prop} (h : A H) : tNoTest σ H fun ok H2 => if ok = true then A H2 else B H2 := by
  show if true = true then A H else B H
  rw [if_pos rfl]
  exact h
end Pv
set_option Elab.async false
set_option linter.all false
set_option maxRecDepth 100000
set_option maxHeartbeats 4000000
namespace Pv
open PySem L2
def kindT : Th → Int
  | .non => 0
  | .int _ => 1
  | .str _ => 2
  | .tup _ => 3
mutual
def aheadT : Th → Th → Bool
  | .non, .non => false
  | .int a, .int b => decide (a < b)
  | .str a, .str b => decide (a.cps.toList < b.cps.toList)
  | .tup a, .tup b => aheadL a b
  | t, u => decide (kindT t < kindT u)
def aheadL : List Th → List Th → Bool
  | [], [] => false
  | [], _ :: _ => true
  | _ :: _, [] => false
  | t :: r, u :: q => if eqT t u = true then aheadL r q else aheadT t u
end
mutual
def rowT : Th → List Int
  | .non => [0]
  | .int a => [1, a]
  | .str x => [2] ++ x.cps.toList.map (fun (c : Nat) => (c : Int)) ++ [-1]
  | .tup ts => [3] ++ rowL ts ++ [-1]
def rowL : List Th → List Int
  | [] => []
  | t :: r => rowT t ++ rowL r
end
theorem lex_pre : ∀ (p a b : List Int), HT.lexLt (p ++ a) (p ++ b) = HT.lexLt a b
  | [], _, _ => rfl
  | x :: r, a, b => by
    rw [List.cons_append, List.cons_append, HT.lexLt_cons, if_pos rfl]
    exact lex_pre r a b
theorem lex_head {x y : Int} (h : x ≠ y) (a b : List Int) : HT.lexLt (x :: a) (y :: b) = decide (x < y) := by rw [HT.lexLt_cons, if_neg h]
theorem lex_str : ∀ (x y : List Nat) (a b : List Int), x ≠ y → HT.lexLt (x.map (fun (c : Nat) => (c : Int)) ++ -1 :: a) (y.map (fun (c : Nat) => (c : Int)) ++ -1 :: b) = decide (x < y)
  | [], [], _, _, h => absurd rfl h
  | [], d :: y, a, b, _ => by
    show HT.lexLt (-1 :: a) ((d : Int) :: _) = _
    rw [lex_head (by omega), decide_eq_true (by omega)]
    exact (decide_eq_true (List.nil_lt_cons d y)).symm
  | c :: x, [], a, b, _ => by
    show HT.lexLt ((c : Int) :: _) (-1 :: b) = _
    rw [lex_head (by omega), decide_eq_false (by omega)]
    exact (decide_eq_false (List.not_lt_nil _)).symm
  | c :: x, d :: y, a, b, h => by
    show HT.lexLt ((c : Int) :: _) ((d : Int) :: _) = _
    by_cases e : c = d
    · subst e
      rw [HT.lexLt_cons, if_pos rfl]
      have := lex_str x y a b (fun z => h (by rw [z]))
      refine Eq.trans this ?_
      rw [Bool.eq_iff_iff]
      simp [List.cons_lt_cons_iff]
    · rw [lex_head (by omega)]
      rw [Bool.eq_iff_iff]
      simp [List.cons_lt_cons_iff, e]
theorem row_head (t : Th) : ∃ r, rowT t = kindT t :: r := by
  cases t with
  | non => exact ⟨[], rfl⟩
  | int a => exact ⟨[a], rfl⟩
  | str x => exact ⟨_, rfl⟩
  | tup ts => exact ⟨_, rfl⟩
theorem kind_nn (t : Th) : 0 ≤ kindT t := by
  cases t with
  | non => exact (by decide : (0 : Int) ≤ 0)
  | int _ => exact (by decide : (0 : Int) ≤ 1)
  | str _ => exact (by decide : (0 : Int) ≤ 2)
  | tup _ => exact (by decide : (0 : Int) ≤ 3)
theorem str_ne {x y : Str} (h : x ≠ y) : x.cps.toList ≠ y.cps.toList := fun z => h (by
  rcases x with ⟨a⟩
  rcases y with ⟨b⟩
  have : a = b := Array.toList_inj.mp z
  rw [this])
theorem lex_kind {t u : Th} (h : kindT t ≠ kindT u) (a b : List Int) : HT.lexLt (rowT t ++ a) (rowT u ++ b) = decide (kindT t < kindT u) := by
  obtain ⟨r, e⟩ := row_head t
  obtain ⟨q, e'⟩ := row_head u
  rw [e, e', List.cons_append, List.cons_append]
  exact lex_head h _ _
mutual
theorem lex_T : ∀ (t u : Th) (a b : List Int), t ≠ u → HT.lexLt (rowT t ++ a) (rowT u ++ b) = aheadT t u
  | .non, .non, _, _, h => absurd rfl h
  | .non, .int _, a, b, _ => lex_kind (t := .non) (u := .int _) (by show (0 : Int) ≠ 1; decide) a b
  | .non, .str _, a, b, _ => lex_kind (t := .non) (u := .str _) (by show (0 : Int) ≠ 2; decide) a b
  | .non, .tup _, a, b, _ => lex_kind (t := .non) (u := .tup _) (by show (0 : Int) ≠ 3; decide) a b
  | .int _, .non, a, b, _ => lex_kind (t := .int _) (u := .non) (by show (1 : Int) ≠ 0; decide) a b
  | .int x, .int y, a, b, h => by
    show HT.lexLt (1 :: x :: a) (1 :: y :: b) = decide (x < y)
    rw [HT.lexLt_cons, if_pos rfl]
    exact lex_head (fun z => h (by rw [z])) _ _
  | .int _, .str _, a, b, _ => lex_kind (t := .int _) (u := .str _) (by show (1 : Int) ≠ 2; decide) a b
  | .int _, .tup _, a, b, _ => lex_kind (t := .int _) (u := .tup _) (by show (1 : Int) ≠ 3; decide) a b
  | .str _, .non, a, b, _ => lex_kind (t := .str _) (u := .non) (by show (2 : Int) ≠ 0; decide) a b
  | .str _, .int _, a, b, _ => lex_kind (t := .str _) (u := .int _) (by show (2 : Int) ≠ 1; decide) a b
  | .str x, .str y, a, b, h => by
    have e : ∀ (z : Str) (w : List Int), rowT (.str z) ++ w = 2 :: (z.cps.toList.map (fun (c : Nat) => (c : Int)) ++ -1 :: w) := fun z w => by
      show ([2] ++ _ ++ [-1]) ++ w = _
      simp
    rw [e, e, HT.lexLt_cons, if_pos rfl]
    exact lex_str _ _ a b (str_ne fun z => h (by rw [z]))
  | .str _, .tup _, a, b, _ => lex_kind (t := .str _) (u := .tup _) (by show (2 : Int) ≠ 3; decide) a b
  | .tup _, .non, a, b, _ => lex_kind (t := .tup _) (u := .non) (by show (3 : Int) ≠ 0; decide) a b
  | .tup _, .int _, a, b, _ => lex_kind (t := .tup _) (u := .int _) (by show (3 : Int) ≠ 1; decide) a b
  | .tup _, .str _, a, b, _ => lex_kind (t := .tup _) (u := .str _) (by show (3 : Int) ≠ 2; decide) a b
  | .tup x, .tup y, a, b, h => by
    have e : ∀ (z : List Th) (w : List Int), rowT (.tup z) ++ w = 3 :: (rowL z ++ -1 :: w) := fun z w => by
      show ([3] ++ _ ++ [-1]) ++ w = _
      simp
    rw [e, e, HT.lexLt_cons, if_pos rfl]
    exact lex_L x y a b (fun z => h (by rw [z]))
theorem lex_L : ∀ (x y : List Th) (a b : List Int), x ≠ y → HT.lexLt (rowL x ++ -1 :: a) (rowL y ++ -1 :: b) = aheadL x y
  | [], [], _, _, h => absurd rfl h
  | [], u :: q, a, b, _ => by
    obtain ⟨r, e⟩ := row_head u
    have := kind_nn u
    show HT.lexLt (-1 :: a) ((rowT u ++ rowL q) ++ -1 :: b) = true
    rw [e, List.cons_append, List.cons_append, lex_head (by omega), decide_eq_true (by omega)]
  | t :: r, [], a, b, _ => by
    obtain ⟨r', e⟩ := row_head t
    have := kind_nn t
    show HT.lexLt ((rowT t ++ rowL r) ++ -1 :: a) (-1 :: b) = false
    rw [e, List.cons_append, List.cons_append, lex_head (by omega), decide_eq_false (by omega)]
  | t :: r, u :: q, a, b, h => by
    show HT.lexLt ((rowT t ++ rowL r) ++ -1 :: a) ((rowT u ++ rowL q) ++ -1 :: b) = if eqT t u = true then aheadL r q else aheadT t u
    rw [List.append_assoc, List.append_assoc]
    by_cases e : t = u
    · subst e
      rw [lex_pre, if_pos (eqT_refl t)]
      exact lex_L r q a b (fun z => h (by rw [z]))
    · rw [if_neg (fun z => e ((eqT_iff t u).mp z))]
      exact lex_T t u _ _ e
end
theorem lexLt_irrefl : ∀ l : List Int, HT.lexLt l l = false
  | [] => rfl
  | x :: r => by rw [HT.lexLt_cons, if_pos rfl]; exact lexLt_irrefl r
mutual
theorem ahead_irrefl : ∀ t : Th, aheadT t t = false
  | .non => rfl
  | .int a => by show decide (a < a) = false; exact decide_eq_false (by omega)
  | .str x => by show decide (x.cps.toList < x.cps.toList) = false; exact decide_eq_false (List.lt_irrefl _)
  | .tup ts => aheadL_irrefl ts
theorem aheadL_irrefl : ∀ ts : List Th, aheadL ts ts = false
  | [] => rfl
  | t :: r => by
    show (if eqT t t = true then aheadL r r else aheadT t t) = false
    rw [if_pos (eqT_refl t)]
    exact aheadL_irrefl r
end
theorem row_ahead (t u : Th) : HT.lexLt (rowT t) (rowT u) = aheadT t u := by
  by_cases h : t = u
  · subst h; rw [lexLt_irrefl, ahead_irrefl]
  · have := lex_T t u [] [] h
    rwa [List.append_nil, List.append_nil] at this
end Pv
set_option Elab.async false
set_option linter.all false
set_option maxRecDepth 100000
set_option maxHeartbeats 4000000
namespace Pv
open PySem L2
/-- the things of a list in the heap -/
def Reps (H : Hp) (ts : List Th) (xs : List V) : Prop := xs.length = ts.length ∧ ∀ (i : Nat) (x : V) (t : Th), xs[i]? = some x → ts[i]? = some t → Rep H t x
theorem Reps.keep {H H' : Hp} {ts : List Th} {xs : List V} (r : Reps H ts xs) (k : Tups H H') : Reps H' ts xs := ⟨r.1, fun i x t h1 h2 => (r.2 i x t h1 h2).keep k⟩
theorem Reps.snoc {H : Hp} {ts : List Th} {xs : List V} {t : Th} {x : V} (r : Reps H ts xs) (h : Rep H t x) : Reps H (ts ++ [t]) (xs ++ [x]) := by
  refine ⟨by simp [r.1], fun i y u h1 h2 => ?_⟩
  have hl := r.1
  by_cases hi : i < xs.length
  · rw [List.getElem?_append_left hi] at h1
    rw [List.getElem?_append_left (by omega)] at h2
    exact r.2 i y u h1 h2
  · rw [List.getElem?_append_right (by omega)] at h1 h2
    cases e : i - xs.length with
    | zero =>
      rw [e] at h1
      rw [show i - ts.length = 0 by omega] at h2
      cases h1; cases h2; exact h
    | succ k => rw [e] at h1; simp at h1
theorem Reps.nil {H : Hp} : Reps H [] [] := ⟨rfl, fun i x t h => by simp at h⟩
theorem Reps.take {H : Hp} {ts : List Th} {xs : List V} (r : Reps H ts xs) (n : Nat) : Reps H (ts.take n) (xs.take n) := by
  refine ⟨by rw [List.length_take, List.length_take, r.1], fun i x t h1 h2 => ?_⟩
  by_cases hi : i < n
  · rw [List.getElem?_take_of_lt hi] at h1 h2
    exact r.2 i x t h1 h2
  · rw [List.getElem?_take_eq_none (by omega)] at h1; cases h1
theorem Reps.drop {H : Hp} {ts : List Th} {xs : List V} (r : Reps H ts xs) (n : Nat) : Reps H (ts.drop n) (xs.drop n) := by
  refine ⟨by rw [List.length_drop, List.length_drop, r.1], fun i x t h1 h2 => ?_⟩
  rw [List.getElem?_drop] at h1 h2
  exact r.2 _ x t h1 h2
theorem Reps.app {H : Hp} {ts us : List Th} {xs ys : List V} (r : Reps H ts xs) (q : Reps H us ys) : Reps H (ts ++ us) (xs ++ ys) := by
  refine ⟨by simp [r.1, q.1], fun i x t h1 h2 => ?_⟩
  have hl := r.1
  by_cases hi : i < xs.length
  · rw [List.getElem?_append_left hi] at h1
    rw [List.getElem?_append_left (by omega)] at h2
    exact r.2 i x t h1 h2
  · rw [List.getElem?_append_right (by omega)] at h1 h2
    rw [hl] at h1
    exact q.2 _ x t h1 h2

theorem cutS_mem {x : Str} {lo hi : Option Int} {c : Nat} (h : c ∈ (cutS x lo hi).cps.toList) : c ∈ x.cps.toList := by
  unfold cutS at h
  simp only at h
  exact List.mem_of_mem_drop (List.mem_of_mem_take h)
end Pv
set_option Elab.async false
set_option linter.all false
set_option maxRecDepth 100000
set_option maxHeartbeats 4000000
namespace L2
open PySem PySem.Spec PyProof.Rows
section
variable {X : Cx} {e : Expr} {es : List Expr} {te : TE} {pos : Pos}
theorem op_le_str : OpR X (compareOp .LtE) (fun x y H Q => ∃ i j, x = .str i ∧ y = .str j ∧ Q (.bl (!decide (j.cps.toList < i.cps.toList))) H) := by
  intro pins s σ H x y v u Q I rx ry h
  obtain ⟨i, j, rfl, rfl, q⟩ := h
  obtain ⟨t, rfl⟩ := rx
  obtain ⟨t', rfl⟩ := ry
  exact PySem.P.le_str (fin_bl I q rfl)
def rJoin : V → List V → Hp → VK → Prop := fun x vs H Q => ∃ z p ys, x = .str z ∧ vs = [.ref p] ∧ H p = some (.lst (ys.map V.str)) ∧ (ys.map (·.length)).sum + ys.length * z.length ≤ 16777216 ∧ Q (.str (Str.join z ys)) H
/-! ### f"..." -/
def tFmt (te : TE) : TE := fun σ H Q => te σ H fun x H1 => (∃ y, x = .str y ∧ y.length ≤ sizeLine ∧ Q (.str y) H1) ∨ ∃ i : Int, x = .int i ∧ i.natAbs.log2 < 1920 ∧ Q (.str (toString i)) H1
abbrev TJ := Str → St → Hp → VK → Prop
def PJ (X : Cx) (es : List Expr) (t : TJ) : Prop := ∀ (pins : List (Addr × Obj)) (s : Shared) (σ : St) (H : Hp) (Q : VK) (out : Str), Inv X pins σ H s → t out σ H Q → wpAny (model X.prog X.w) X.A (joinParts out (evalEach es X.env)) (EP X pins σ Q) X.xe s
def tJ (te : TE) (t : TJ) : TJ := fun out σ H Q => te σ H fun x H1 => ∃ y, x = .str y ∧ (out ++ y).length ≤ sizeLine ∧ t (out ++ y) σ H1 Q
end
end L2
namespace Pv
open PySem L2 PyProof.Rows PySem.NumText
/-! ### texts by the numbers of their signs -/
def tx (l : List Nat) : Str := ⟨l.toArray⟩
/-! ### figures -/
def digs (m : Nat) : List Nat := (Nat.toDigits 10 m).map Char.toNat
def numL (i : Int) : List Nat := (Str.ofString (toString i)).cps.toList
/-! ### how a thing is written -/
mutual
def wrT : Th → List Nat
  | .non => [111]
  | .int i => 110 :: (numL i ++ [59])
  | .str x => 116 :: (numL x.length ++ 58 :: x.cps.toList)
  | .tup ts => 40 :: (wrL ts ++ [41])
def wrL : List Th → List Nat
  | [] => []
  | t :: r => wrT t ++ wrL r
end
end Pv
set_option Elab.async false
set_option linter.all false
set_option maxRecDepth 100000
set_option maxHeartbeats 4000000
namespace Pv
open PySem L2 PyProof.Rows PySem.NumText
/-! ### the order of rows -/
theorem lex_neg : ∀ a b c : List Int, HT.lexLt a c = true → HT.lexLt a b = true ∨ HT.lexLt b c = true
  | [], [], [], h => by cases h
  | [], [], _ :: _, _ => .inr rfl
  | [], _ :: _, _, _ => .inl rfl
  | _ :: _, _, [], h => by cases h
  | _ :: _, [], _ :: _, _ => .inr rfl
  | x :: a, y :: b, z :: c, h => by
    rw [HT.lexLt_cons] at h
    rw [HT.lexLt_cons, HT.lexLt_cons]
    by_cases e1 : x = y
    · by_cases e2 : y = z
      · rw [if_pos (e1.trans e2)] at h
        rw [if_pos e1, if_pos e2]
        exact lex_neg a b c h
      · rw [if_neg (fun q => e2 (e1.symm.trans q))] at h
        rw [if_neg e2]
        have := of_decide_eq_true h
        exact .inr (decide_eq_true (by omega))
    · by_cases e2 : y = z
      · rw [if_neg (fun q => e1 (q.trans e2.symm))] at h
        rw [if_neg e1]
        have := of_decide_eq_true h
        exact .inl (decide_eq_true (by omega))
      · rw [if_neg e1, if_neg e2]
        by_cases hx : x < y
        · exact .inl (decide_eq_true hx)
        · refine .inr (decide_eq_true ?_)
          by_cases e3 : x = z
          · omega
          · rw [if_neg e3] at h
            have := of_decide_eq_true h
            omega
theorem ahead_asym {t u : Th} (h : aheadT t u = true) : aheadT u t = false := by
  cases e : aheadT u t with
  | false => rfl
  | true =>
    rw [← row_ahead] at h e
    have : ∀ a b : List Int, HT.lexLt a b = true → HT.lexLt b a = true → False := fun a b => by
      induction a generalizing b with
      | nil =>
        intro p q
        cases b <;> cases q
      | cons x a ih =>
        intro p q
        cases b with
        | nil => cases p
        | cons y b =>
          rw [HT.lexLt_cons] at p q
          by_cases z : x = y
          · rw [if_pos z] at p
            rw [if_pos z.symm] at q
            exact ih b p q
          · rw [if_neg z] at p
            rw [if_neg (fun k => z k.symm)] at q
            have := of_decide_eq_true p
            have := of_decide_eq_true q
            omega
    exact (this _ _ h e).elim
/-- t is not behind u -/
def leT (t u : Th) : Prop := aheadT u t = false
theorem leT.refl (t : Th) : leT t t := ahead_irrefl t
theorem leT.trans {t u v : Th} (a : leT t u) (b : leT u v) : leT t v := by
  show aheadT v t = false
  cases e : aheadT v t with
  | false => rfl
  | true =>
    rw [← row_ahead] at e
    rcases lex_neg _ (rowT u) _ e with h | h
    · rw [row_ahead] at h; rw [show aheadT v u = false from b] at h; cases h
    · rw [row_ahead] at h; rw [show aheadT u t = false from a] at h; cases h
theorem leT.of {t u : Th} (h : aheadT t u = true) : leT t u := ahead_asym h
/-! ### unlike things are written unlike -/
end Pv
set_option Elab.async false
set_option linter.all false
set_option maxRecDepth 100000
set_option maxHeartbeats 4000000
namespace L2
open PySem PySem.Spec PyProof.Rows
section
variable {X : Cx}
theorem op_isnotB : OpR X (compareOp .IsNot) (fun x y H Q => ∃ a b, x = .bl a ∧ y = .bl b ∧ Q (.bl (!decide (a = b))) H) := by
  intro pins s σ H x y v u Q I rx ry h
  obtain ⟨a, b, rfl, rfl, q⟩ := h
  cases (show v = Value.bool a from rx)
  cases (show u = Value.bool b from ry)
  have e : (!decide (a = b)) = (!(Value.bool a == Value.bool b)) := by cases a <;> cases b <;> rfl
  rw [e] at q
  exact wpAny_pure ⟨.bl _, H, I, rfl, q⟩
/-- t[lo:hi], the whole of it: t itself -/
def rSlW (K : PySem.W.Frag) : V → Option Int → Option Int → Hp → VK → Prop := fun x lo hi H Q => ∃ a xs, x = .ref a ∧ SqT K H a xs ∧ HT.sIx xs.length 0 lo = 0 ∧ HT.sIx xs.length xs.length hi = xs.length ∧ Q (.ref a) H
end
end L2
set_option Elab.async false
set_option linter.all false
set_option maxRecDepth 100000
set_option maxHeartbeats 4000000
namespace Px
open PySem PySem.W PySem.Builtin
section
variable {prog : Program} {w : World} {A : Around} {E : Value → Shared → Prop} {s : Shared} {K : Frag} {x D : Addr} {ox : Obj} {od : Option Obj}
theorem xeq_bound {Q : Option Value → Shared → Prop} (X : K.In s.heap) (I : InstAt s.heap x ox D od) (hp : xOver K D = true) (he : findIn K (.ref D) "__eq__" = some (some (.builtin "object.__eq__")))
    (h : Q (some (.bool true)) s) : wpAny (model prog w) A (callSpecialIfBound? (.ref x) "__eq__" [.ref x]) Q E s := by
  have isO := x_inst (M := model prog w) (T := "object") X I hp (by decide)
  obtain ⟨hp', g, d, t, os⟩ := s
  have L1 := looks_findIn (M := model prog w) X he
  have S := F.cmp_object.eq
  have sp : ∀ {Q : Option Value → Shared → Prop}, Q (some (.builtin "object.__eq__")) ⟨hp', g, d, t, os⟩ → wpAny (model prog w) A (specialOf (.ref x) "__eq__") Q E ⟨hp', g, d, t, os⟩ := fun {Q} q => by
    unfold specialOf
    repeat (first | (with_reducible refine wpAny_loadPart_at I.at_ ?_; rw [I.cls]) | with_reducible refine L1.at ?_ | wp_step)
    exact q
  simp only [callSpecialIfBound?, bindSpecialIfBound?]
  refine wpAny_holding (wpAny_bind (wpAny_bind (sp ?_)))
  simp only [S.bind]
  have cl : wpAny (model prog w) A (call (.builtin "object.__eq__") [.ref x, .ref x]) (fun v => Q (some v)) E ⟨hp', g, d, t, os⟩ :=
    wpAny_call (codeAny_call_builtin S.plain F.cmpEntry_eq (check_slot F.cmpKind_eq F.cmpSplit_eq isO (F.cmpArgs_eq _ _) (objEq_entry_same h)))
  have fin : wpAny (model prog w) A (call (.builtin "object.__eq__") ([.ref x] ++ [.ref x]) >>= fun v => pure (some v)) Q E ⟨hp', g, d, t, os⟩ :=
    wpAny_bind (wpAny_mono cl (fun v s' h' => wpAny_pure h') fun _ _ h' => h')
  refine wpAny_bind (wpAny_askSetting (wpAny_ite ?_))
  split
  · exact wpAny_bind (wpAny_pure (wpAny_pure fin))
  · exact wpAny_tryCatch (wpAny_bind (wpAny_pure (wpAny_pure fin)))
theorem xeq_same {Q : Value → Shared → Prop} (X : K.In s.heap) (I : InstAt s.heap x ox D od) (hp : xOver K D = true) (he : findIn K (.ref D) "__eq__" = some (some (.builtin "object.__eq__"))) (hu : A.units < cLine)
    (h : Q (.bool true) s) : wpAny (model prog w) A (richCompare .Eq (.ref x) (.ref x)) Q E s := by
  have tc : ∀ {Q : Option Value → Shared → Prop}, Q (some (.bool true)) s → wpAny (model prog w) A (tryCompare (.ref x) "__eq__" (.ref x)) Q E s := fun {Q} q => by
    simp only [tryCompare]
    exact wpAny_bind (xeq_bound X I hp he (wpAny_pure q))
  obtain ⟨hp', g, d, t, os⟩ := s
  have rf : ∀ {α : Type} {k : Bool → Sem α} {Q : α → Shared → Prop}, wpAny (model prog w) A (k false) Q E ⟨hp', g, d, t, os⟩ → wpAny (model prog w) A (if Value.ref D != Value.ref D then isSubtype (.ref D) (.ref D) >>= k else pure false >>= k) Q E ⟨hp', g, d, t, os⟩ := fun {α k Q} q => by
    rw [if_neg (by simp)]
    exact wpAny_bind (wpAny_pure q)
  simp only [richCompare, cmpInfo_Eq, oneThing_ref]
  repeat (first | with_reducible refine wpAny_cRoomFor hu ?_ | (with_reducible refine wpAny_loadPart_at I.at_ ?_; rw [I.cls]) | with_reducible refine rf ?_ | with_reducible refine tc ?_ | wp_step)
  exact h
end
end Px
namespace L2
open PySem PySem.Spec PyProof.Rows Px
section
variable {X : Cx}
/-- an error is itself -/
theorem op_eqX {k : Nat} (hr : Room k X.A) : OpR X (compareOp .Eq) (fun x y H Q => ∃ a C, x = .ref a ∧ y = .ref a ∧ H a = some (exO a C none true) ∧ XKind X.K C ∧ PySem.W.findIn X.K (.ref C) "__eq__" = some (some (.builtin "object.__eq__")) ∧ Q (.bl true) H) := by
  intro pins s σ H x y v w Q I rx ry h
  obtain ⟨a, C, rfl, rfl, e, kd, he, q⟩ := h
  cases (show v = Value.ref a from rx)
  cases (show w = Value.ref a from ry)
  have hu := hr.units
  obtain ⟨vs, sl, ge, _⟩ := exO_get I.hok e
  exact xeq_same (od := none) I.kIn ⟨ge, rfl, rfl, trivial⟩ kd.cl.ov he (by omega) ⟨.bl _, H, I, rfl, q⟩
/-- an empty dict is itself -/
theorem op_eqD0 {k : Nat} (hr : Room k X.A) : OpR X (compareOp .Eq) (fun x y H Q => ∃ a, x = .ref a ∧ y = .ref a ∧ H a = some (.dK []) ∧ Q (.bl true) H) := by
  intro pins s σ H x y v w Q I rx ry h
  obtain ⟨a, rfl, rfl, e, q⟩ := h
  cases (show v = Value.ref a from rx)
  cases (show w = Value.ref a from ry)
  have hu := hr.units
  obtain ⟨hz, lo, vs, rel, hD⟩ := I.hok a _ e
  have hl : vs.length = 0 := by have := rel.at.1; simpa using this.symm
  cases vs with
  | cons => cases hl
  | nil => exact PySem.W.keq_eq (r := true) lo lo hD hD (by omega) (fun _ => .nil) ⟨.bl _, H, I, rfl, q⟩
/-- xs == [] -/
theorem op_eqNil {k : Nat} (hr : Room k X.A) : OpR X (compareOp .Eq) (fun x y H Q => ∃ a b xs, x = .ref a ∧ y = .ref b ∧ SqL X.K H a xs ∧ SqL X.K H b [] ∧ Q (.bl (xs.isEmpty)) H) := by
  intro pins s σ H x y v w Q I rx ry h
  obtain ⟨a, b, xs, rfl, rfl, e, e', q⟩ := h
  cases (show v = Value.ref a from rx)
  cases (show w = Value.ref b from ry)
  have hu := hr.units
  obtain ⟨its, r1, T1, _⟩ := I.list e
  obtain ⟨jts, r2, T2, _⟩ := I.list e'
  have n1 := r1.length
  have n2 := r2.length
  cases xs with
  | nil =>
    have z1 : its = [] := by cases its with | nil => rfl | cons => simp at n1
    have z2 : jts = [] := by cases jts with | nil => rfl | cons => simp at n2
    subst z1 z2
    exact (PySem.SeqAt.RcAt.lists (e := fun _ => true) T1.isList T2.isList rfl (by omega) (fun j h1 => absurd h1 (Nat.not_lt_zero _))) _ _ _ _ ⟨.bl _, H, I, rfl, q⟩
  | cons c xs =>
    have z2 : jts = [] := by cases jts with | nil => rfl | cons => simp at n2
    subst z2
    have hsz : (its.toArray.size != (#[] : Array Value).size) = true := by
      rw [List.size_toArray, bne_iff_ne, ← n1, List.length_cons]
      exact Nat.succ_ne_zero _
    exact (PySem.SeqAt.RcAt.lists_lengths T1.isList T2.isList hsz (by omega)) _ _ _ _ ⟨.bl _, H, I, rfl, q⟩
end
end L2
set_option Elab.async false
set_option linter.all false
set_option maxRecDepth 100000
set_option maxHeartbeats 4000000
namespace Pv
open PySem L2
/-! any value that is asked whether it is a thing -/
/-- odd: 0 a list, 1 a dict, 2 an error -/
inductive Ob where
  | non | bl (b : Bool) | int (i : Int) | str (x : Str) | tup (ts : List Ob) | odd (k : Nat)
inductive RepO (CN : Addr) (H : Hp) : Ob → V → Prop where
  | non : RepO CN H .non .non
  | bl (b : Bool) : RepO CN H (.bl b) (.bl b)
  | int (i : Int) : RepO CN H (.int i) (.int i)
  | str (x : Str) : RepO CN H (.str x) (.str x)
  | tup {a : Addr} {xs : List V} {ts : List Ob} (e : H a = some (.tup xs)) (l : xs.length = ts.length) (h : ∀ (i : Nat) (x : V) (t : Ob), xs[i]? = some x → ts[i]? = some t → RepO CN H t x) : RepO CN H (.tup ts) (.ref a)
  | lst {a : Addr} {xs : List V} (e : H a = some (.lst xs)) : RepO CN H (.odd 0) (.ref a)
  | dic {a : Addr} {kvs : List (Key × V)} (e : H a = some (.dK kvs)) : RepO CN H (.odd 1) (.ref a)
  | exc {a : Addr} (e : H a = some (exO a CN none true)) : RepO CN H (.odd 2) (.ref a)
/-- all stays, but that lists may change -/
def Kept (H H' : Hp) : Prop := ∀ b o, H b = some o → H' b = some o ∨ ∃ xs ys, o = .lst xs ∧ H' b = some (.lst ys)
theorem Kept.of {H H' : Hp} (s : Same H H') : Kept H H' := fun b o e => .inl (s b o e)
theorem Kept.trans {H H1 H2 : Hp} (a : Kept H H1) (b : Kept H1 H2) : Kept H H2 := fun c o e => by
  rcases a c o e with h | ⟨xs, ys, rfl, h⟩
  · exact b c o h
  · rcases b c _ h with k | ⟨_, zs, _, k⟩
    · exact .inr ⟨xs, ys, rfl, k⟩
    · exact .inr ⟨xs, zs, rfl, k⟩
theorem Kept.other {H H' : Hp} (k : Kept H H') {b : Addr} {o : HO} (n : ∀ xs, o ≠ .lst xs) (e : H b = some o) : H' b = some o := by
  rcases k b o e with h | ⟨xs, _, h, _⟩
  · exact h
  · exact absurd h (n xs)
theorem RepO.keep {CN : Addr} {H H' : Hp} {t : Ob} {v : V} (r : RepO CN H t v) (k : Kept H H') : RepO CN H' t v := by
  induction r with
  | non => exact .non
  | bl b => exact .bl b
  | int i => exact .int i
  | str x => exact .str x
  | tup e l h ih => exact .tup (k.other (by intro xs z; cases z) e) l ih
  | lst e =>
    rcases k _ _ e with h | ⟨_, ys, _, h⟩
    · exact .lst h
    · exact .lst h
  | dic e => exact .dic (k.other (by intro xs z; cases z) e)
  | exc e => exact .exc (k.other (by intro xs z; cases z) e)
mutual
def ofT : Th → Ob
  | .non => .non
  | .int i => .int i
  | .str x => .str x
  | .tup ts => .tup (ofL ts)
def ofL : List Th → List Ob
  | [] => []
  | t :: r => ofT t :: ofL r
end
theorem ofL_len : ∀ ts : List Th, (ofL ts).length = ts.length
  | [] => rfl
  | _ :: r => by show (ofL r).length + 1 = _; rw [ofL_len r]; rfl
theorem ofL_get : ∀ (ts : List Th) (i : Nat), (ofL ts)[i]? = ts[i]?.map ofT
  | [], i => by simp [ofL]
  | t :: r, 0 => rfl
  | t :: r, i + 1 => by
    show (ofL r)[i]? = _
    rw [ofL_get r i]; simp
theorem Rep.toO {CN : Addr} {H : Hp} {t : Th} {v : V} (r : Rep H t v) : RepO CN H (ofT t) v := by
  induction r with
  | non => exact .non
  | int i => exact .int i
  | str x => exact .str x
  | tup e l h ih =>
    refine RepO.tup e (by rw [ofL_len]; exact l) fun i x t e1 e2 => ?_
    rw [ofL_get] at e2
    obtain ⟨u, e3, rfl⟩ := Option.map_eq_some_iff.mp e2
    exact ih i x u e1 e3
mutual
/-- how deep tuples stand -/
def deepO : Ob → Nat
  | .tup ts => deepOL ts + 1
  | _ => 0
def deepOL : List Ob → Nat
  | [] => 0
  | t :: r => max (deepO t) (deepOL r)
end
mutual
/-- what keeps sizes small; no text has a percent sign -/
def OkO : Ob → Prop
  | .str x => x.length ≤ 900 ∧ ∀ c ∈ x.cps.toList, c ≠ 37
  | .tup ts => ts.length ≤ 900 ∧ OkOL ts
  | _ => True
def OkOL : List Ob → Prop
  | [] => True
  | t :: r => OkO t ∧ OkOL r
end
def signB (c : Nat) : Bool := decide (32 ≤ c) && decide (c ≤ 126) && !decide (c = 37)
def absB (i : Int) : Bool := decide ((if i < 0 then -i else i) ≤ (10 : Int) ^ (30 : Int).toNat)
mutual
/-- as the program asks -/
def within : Ob → Nat → Bool
  | .non, _ => true
  | .bl _, _ => false
  | .int i, _ => absB i
  | .str x, _ => decide (x.length ≤ 60) && x.cps.toList.all signB
  | .tup ts, d => match d with | 0 => false | d + 1 => decide (ts.length ≤ 40) && withinL ts d
  | .odd _, _ => false
def withinL : List Ob → Nat → Bool
  | [], _ => true
  | t :: r, d => within t d && withinL r d
end
mutual
/-- as the law asks -/
def fineO : Ob → Bool
  | .non => true
  | .bl _ => false
  | .int i => absB i
  | .str x => decide (x.length < 61) && x.cps.toList.all fun c => !(decide (c < 32) || decide (126 < c))
  | .tup ts => decide (ts.length ≤ 40) && fineOL ts
  | .odd _ => false
def fineOL : List Ob → Bool
  | [] => true
  | t :: r => fineO t && fineOL r
end
theorem all_sign : ∀ l : List Nat, (∀ c ∈ l, c ≠ 37) → l.all signB = l.all fun c => !(decide (c < 32) || decide (126 < c))
  | [], _ => rfl
  | c :: l, h => by
    rw [List.all_cons, List.all_cons, all_sign l fun c hc => h c (List.mem_cons_of_mem _ hc)]
    congr 1
    have := h c List.mem_cons_self
    unfold signB
    rw [decide_eq_false this, Bool.not_false, Bool.and_true]
    by_cases h1 : c < 32
    · rw [decide_eq_true h1, decide_eq_false (by omega)]; rfl
    · rw [decide_eq_false h1, decide_eq_true (by omega)]
      by_cases h2 : 126 < c
      · rw [decide_eq_true h2, decide_eq_false (by omega)]; rfl
      · rw [decide_eq_false h2, decide_eq_true (by omega)]; rfl
mutual
theorem within_eq : ∀ (t : Ob) (d : Nat), OkO t → within t d = (decide (deepO t ≤ d) && fineO t)
  | .non, d, _ => by
    show true = (decide (0 ≤ d) && true)
    rw [decide_eq_true (Nat.zero_le d)]; rfl
  | .bl _, d, _ => by
    show false = (decide (0 ≤ d) && false)
    rw [Bool.and_false]
  | .int i, d, _ => by
    show absB i = (decide (0 ≤ d) && absB i)
    rw [decide_eq_true (Nat.zero_le d), Bool.true_and]
  | .odd _, d, _ => by
    show false = (decide (0 ≤ d) && false)
    rw [Bool.and_false]
  | .str x, d, h => by
    show _ = (decide (0 ≤ d) && _)
    rw [decide_eq_true (Nat.zero_le d), Bool.true_and]
    show (decide (x.length ≤ 60) && x.cps.toList.all signB) = (decide (x.length < 61) && x.cps.toList.all fun c => !(decide (c < 32) || decide (126 < c)))
    rw [all_sign _ h.2]
    congr 1
    exact decide_eq_decide.mpr Nat.lt_succ_iff.symm
  | .tup ts, 0, h => by
    show false = (decide (deepOL ts + 1 ≤ 0) && _)
    rw [decide_eq_false (Nat.not_succ_le_zero _)]; rfl
  | .tup ts, d + 1, h => by
    show (decide (ts.length ≤ 40) && withinL ts d) = (decide (deepOL ts + 1 ≤ d + 1) && (decide (ts.length ≤ 40) && fineOL ts))
    rw [withinL_eq ts d h.2, decide_eq_decide.mpr (Nat.succ_le_succ_iff (a := deepOL ts) (b := d))]
    cases decide (ts.length ≤ 40) <;> cases decide (deepOL ts ≤ d) <;> rfl
theorem withinL_eq : ∀ (ts : List Ob) (d : Nat), OkOL ts → withinL ts d = (decide (deepOL ts ≤ d) && fineOL ts)
  | [], d, _ => by
    show true = (decide (0 ≤ d) && true)
    rw [decide_eq_true (Nat.zero_le d)]; rfl
  | t :: r, d, h => by
    show (within t d && withinL r d) = (decide (max (deepO t) (deepOL r) ≤ d) && (fineO t && fineOL r))
    rw [within_eq t d h.1, withinL_eq r d h.2, decide_eq_decide.mpr (Nat.max_le (a := deepO t) (b := deepOL r) (c := d)), Bool.decide_and]
    cases decide (deepO t ≤ d) <;> cases decide (deepOL r ≤ d) <;> cases fineO t <;> cases fineOL r <;> rfl
end
theorem OkOL.get : ∀ {ts : List Ob} {i : Nat} {t : Ob}, OkOL ts → ts[i]? = some t → OkO t
  | [], i, t, _, e => by simp at e
  | u :: r, 0, t, h, e => by simp at e; subst e; exact h.1
  | u :: r, i + 1, t, h, e => OkOL.get (i := i) h.2 (by simpa using e)
theorem OkOL.of : ∀ {ts : List Ob}, (∀ t ∈ ts, OkO t) → OkOL ts
  | [], _ => trivial
  | t :: r, h => ⟨h t List.mem_cons_self, OkOL.of fun u hu => h u (List.mem_cons_of_mem _ hu)⟩
theorem OkOL.mem {ts : List Ob} (h : OkOL ts) {t : Ob} (m : t ∈ ts) : OkO t := by
  obtain ⟨i, hi⟩ := List.getElem?_of_mem m
  exact h.get hi
theorem deepOL_get : ∀ {ts : List Ob} {i : Nat} {t : Ob}, ts[i]? = some t → deepO t ≤ deepOL ts
  | [], _, _, e => by simp at e
  | u :: r, 0, t, e => by simp at e; subst e; exact Nat.le_max_left _ _
  | u :: r, i + 1, t, e => Nat.le_trans (deepOL_get (i := i) (by simpa using e)) (Nat.le_max_right _ _)
theorem deepOL_le {n : Nat} : ∀ {ts : List Ob}, (∀ t ∈ ts, deepO t ≤ n) → deepOL ts ≤ n
  | [], _ => Nat.zero_le _
  | t :: r, h => Nat.max_le.mpr ⟨h t List.mem_cons_self, deepOL_le fun u hu => h u (List.mem_cons_of_mem _ hu)⟩
theorem deepOL_mem {ts : List Ob} {t : Ob} (m : t ∈ ts) : deepO t ≤ deepOL ts := by
  obtain ⟨i, hi⟩ := List.getElem?_of_mem m
  exact deepOL_get hi
mutual
theorem ofT_ok : ∀ t : Th, Wf t → OkO (ofT t)
  | .non, _ => trivial
  | .int _, _ => trivial
  | .str x, h => ⟨Nat.le_trans h.1 (by decide), fun c hc => (h.2 c hc).2.2⟩
  | .tup ts, h => ⟨by rw [ofL_len]; exact Nat.le_trans h.1 (by decide), ofL_ok ts h.2⟩
theorem ofL_ok : ∀ ts : List Th, WfL ts → OkOL (ofL ts)
  | [], _ => trivial
  | t :: r, h => ⟨ofT_ok t h.1, ofL_ok r h.2⟩
end
mutual
theorem ofT_deep : ∀ t : Th, deepO (ofT t) = dep t
  | .non => rfl
  | .int _ => rfl
  | .str _ => rfl
  | .tup ts => by show deepOL (ofL ts) + 1 = depL ts + 1; rw [ofL_deep ts]
theorem ofL_deep : ∀ ts : List Th, deepOL (ofL ts) = depL ts
  | [] => rfl
  | t :: r => by show max (deepO (ofT t)) (deepOL (ofL r)) = max (dep t) (depL r); rw [ofT_deep t, ofL_deep r]
end
/-! the class of a value -/
inductive Kd where | tuple | str | int | bool | list
def Kd.nm : Kd → String
  | .tuple => "tuple" | .str => "str" | .int => "int" | .bool => "bool" | .list => "list"
def instO : Ob → Kd → Bool
  | .bl _, .bool => true
  | .bl _, .int => true
  | .int _, .int => true
  | .str _, .str => true
  | .tup _, .tuple => true
  | .odd 0, .list => true
  | _, _ => false
structure NTk (K : PySem.W.Frag) (CN : Addr) : Prop where
  kd : XKind K CN
  k1 : PySem.W.kitOne K (.ref CN) (.type "tuple") = some false
  k2 : PySem.W.kitOne K (.ref CN) (.type "str") = some false
  k3 : PySem.W.kitOne K (.ref CN) (.type "int") = some false
  k4 : PySem.W.kitOne K (.ref CN) (.type "bool") = some false
  k5 : PySem.W.kitOne K (.ref CN) (.type "list") = some false
  he : PySem.W.findIn K (.ref CN) "__eq__" = some (some (.builtin "object.__eq__"))
def rInstO (CN : Addr) : List V → Hp → VK → Prop := fun xs H Q => ∃ (t : Ob) (v : V) (c : Kd), xs = [v, .ty c.nm] ∧ RepO CN H t v ∧ Q (.bl (instO t c)) H
section
variable {X : Cx} {CN : Addr}
theorem call_isinstO (nt : NTk X.K CN) : CallR X (.builtin "isinstance") (rInstO CN) := by
  intro pins s σ H xs us Q I r h
  obtain ⟨t, v, c, rfl, rv, q⟩ := h
  cases rv with
  | non => exact call_isinst pins s σ H _ us Q I r ⟨_, _, _, false, rfl, .non, by cases c <;> rfl, by cases c <;> exact q⟩
  | bl b => exact call_isinst pins s σ H _ us Q I r ⟨_, _, _, instO (.bl b) c, rfl, .bl b, by cases c <;> rfl, q⟩
  | int i => exact call_isinst pins s σ H _ us Q I r ⟨_, _, _, instO (.int i) c, rfl, .int i, by cases c <;> rfl, q⟩
  | str x => exact call_isinst pins s σ H _ us Q I r ⟨_, _, _, instO (.str x) c, rfl, .str x, by cases c <;> rfl, q⟩
  | @tup a xs ts e l h => exact call_isinst pins s σ H _ us Q I r ⟨_, _, _, instO (.tup ts) c, rfl, .tup e, by cases c <;> rfl, q⟩
  | lst e => exact call_isinst pins s σ H _ us Q I r ⟨_, _, _, instO (.odd 0) c, rfl, .lst e, by cases c <;> rfl, q⟩
  | dic e => exact call_isinst pins s σ H _ us Q I r ⟨_, _, _, instO (.odd 1) c, rfl, .dK e, by cases c <;> rfl, q⟩
  | exc e => exact call_isinstX pins s σ H _ us Q I r ⟨_, CN, none, true, _, instO (.odd 2) c, rfl, e, nt.kd, (fun d z => nomatch z), q, .inl ⟨_, rfl, by cases c <;> first | exact nt.k1 | exact nt.k2 | exact nt.k3 | exact nt.k4 | exact nt.k5⟩⟩
end
end Pv
set_option Elab.async false
set_option linter.all false
set_option maxRecDepth 100000
set_option maxHeartbeats 4000000
namespace Pv
open PySem L2
abbrev sis_whole : Stmt := top 8
theorem scis_whole : FnScope ["value"] ["value"] (defScope sis_whole) := ⟨rfl, rfl, rfl, by decide +kernel, rfl, by decide +kernel, by decide +kernel⟩
abbrev sis_thing : Stmt := top 9
theorem scis_thing : FnScope ["thing"] ["thing"] (defScope sis_thing) := ⟨rfl, rfl, rfl, by decide +kernel, rfl, by decide +kernel, by decide +kernel⟩
abbrev sis_thing_within : Stmt := top 10
theorem scis_thing_within : FnScope ["thing", "deep"] ["thing", "deep"] (defScope sis_thing_within) := ⟨rfl, rfl, rfl, by decide +kernel, rfl, by decide +kernel, by decide +kernel⟩
abbrev sis_tuple_within : Stmt := top 11
theorem scis_tuple_within : FnScope ["parts", "deep", "part"] ["parts", "deep"] (defScope sis_tuple_within) := ⟨rfl, rfl, rfl, by decide +kernel, rfl, by decide +kernel, by decide +kernel⟩
abbrev shas_signs_of_things : Stmt := top 12
theorem schas_signs_of_things : FnScope ["text", "sign"] ["text"] (defScope shas_signs_of_things) := ⟨rfl, rfl, rfl, by decide +kernel, rfl, by decide +kernel, by decide +kernel⟩
theorem lt1 (c k : Nat) : decide ([c] < [k]) = decide (c < k) := by
  by_cases h : c < k
  · rw [decide_eq_true h]; exact decide_eq_true (by simp [List.cons_lt_cons_iff, h])
  · rw [decide_eq_false h]; exact decide_eq_false (by simp [List.cons_lt_cons_iff]; omega)
def wholeB : Ob → Bool
  | .int _ => true
  | _ => false
def spWholeO (CN : Addr) : Sp := fun vs H Q _ => ∃ (t : Ob) (v : V), vs = [v] ∧ RepO CN H t v ∧ Q (.bl (wholeB t)) H
def spSignsO : Sp := fun vs H Q _ => ∃ x : Str, vs = [.str x] ∧ Q (.bl (x.cps.toList.all signB)) H
def spWO (CN : Addr) (n : Nat) : Sp := fun vs H Q _ => ∃ (t : Ob) (v : V) (d : Nat), vs = [v, .int (d : Int)] ∧ RepO CN H t v ∧ OkO t ∧ d < n ∧ Q (.bl (within t d)) H
def spTO (CN : Addr) (n : Nat) : Sp := fun vs H Q _ => ∃ (ts : List Ob) (v : V) (d : Nat), vs = [v, .int (d : Int)] ∧ RepO CN H (.tup ts) v ∧ OkO (.tup ts) ∧ d ≤ n ∧ Q (.bl (within (.tup ts) d)) H
def spIsO (CN : Addr) : Sp := fun vs H Q _ => ∃ (t : Ob) (v : V), vs = [v] ∧ RepO CN H t v ∧ OkO t ∧ Q (.bl (within t 5)) H
section
variable {P : Program} {w : World} {K : PySem.W.Frag} {mg : Str → Option Value} {base : Heap} {t1 t2 t3 t4 t5 : Tok} {CN : Addr}
theorem ok_wholeO (nt : NTk K CN) (D : Dfn K mg "is_whole" sis_whole ["value"]) (m_isinstance : mg "isinstance" = none) (m_int : mg "int" = none) (m_bool : mg "bool" = none) : Fn P w K mg base "is_whole" 1 ["value"] (spWholeO CN) := by
  refine D.ok (k := 0) scis_whole (fun vs H Q E h => ?_) (fun f cdv A outer s H vs Q E hr h => ?_)
  · obtain ⟨t, v, rfl, _⟩ := h; rfl
  obtain ⟨t, v, rfl, rv, q⟩ := h
  refine ⟨_, (pss_one (ps_ret (pe_and (pe_callB (call_isinstO nt) (by rfl) m_isinstance (by rfl) (pa_cons (pv 0) (pa_cons (pe_bltn (v := .ty "int") (by rfl) m_int (by rfl) rfl) pa_nil))) (pe_one (pe_not (pe_callB (call_isinstO nt) (by rfl) m_isinstance (by rfl) (pa_cons (pv 0) (pa_cons (pe_bltn (v := .ty "bool") (by rfl) m_bool (by rfl) rfl) pa_nil)))))))), ?_⟩
  refine ⟨_, rfl, t, v, .int, rfl, rv, _, rfl, ?_⟩
  cases rv with
  | int i => exact ifT rfl ⟨_, rfl, .int i, _, .bool, rfl, .int i, _, rfl, q⟩
  | bl b => exact ifT rfl ⟨_, rfl, .bl b, _, .bool, rfl, .bl b, _, rfl, q⟩
  | non => exact ifF rfl q
  | str x => exact ifF rfl q
  | tup e l h => exact ifF rfl q
  | lst e => exact ifF rfl q
  | dic e => exact ifF rfl q
  | exc e => exact ifF rfl q
theorem all_take {l : List Nat} {p : Nat → Bool} {i c : Nat} (e : l[i]? = some c) (h : (l.take i).all p = true) : (l.take (i + 1)).all p = p c := by
  rw [List.take_add_one, e, List.all_append, h]
  simp
theorem all_stop {l : List Nat} {p : Nat → Bool} {i c : Nat} (e : l[i]? = some c) (h : p c = false) : l.all p = false := by
  cases z : l.all p with
  | false => rfl
  | true =>
    have := List.all_eq_true.mp z c (List.mem_of_getElem? e)
    rw [h] at this; cases this
theorem ok_signsO (D : Dfn K mg "has_signs_of_things" shas_signs_of_things ["text"]) (m_ord : mg "ord" = none) (g_PERCENT : mg "PERCENT" = some (.int 37 t5)) : Fn P w K mg base "has_signs_of_things" 1 ["text"] spSignsO := by
  refine D.ok (k := 0) schas_signs_of_things (fun vs H Q E h => ?_) (fun f cdv A outer s H vs Q E hr h => ?_)
  · obtain ⟨x, rfl, _⟩ := h; rfl
  obtain ⟨x, rfl, q⟩ := h
  refine ⟨_, (pss_cons (ps_for PassesOwn.never rfl (pi_str (pv 0)) (pg_name (i := 1) schas_signs_of_things.nd rfl (Or.inl rfl))
  (pss_one (ps_if (PW.pt (pw_or (pt_not (pt_chain op_le_str op_le_str pe_str (pv 1) pe_str)) (pw_or1 (pt_cmpR op_eq (pe_callB (call_ord) (by rfl) m_ord (by rfl) (pa_cons (pv 1) pa_nil)) (pe_glob (v := .int 37) (by rfl) g_PERCENT ⟨_, rfl⟩) (nomark _)))))
  (pss_one (ps_ret pe_bl))
  pss_nil)))
 (pss_one (ps_ret pe_bl))), ?_⟩
  refine ⟨_, rfl, x, rfl, ?_⟩
  refine for_str (z := x) (fun i σ H' => ∃ k, σ = [some (.str x), k] ∧ H' = H ∧ (x.cps.toList.take i).all signB = true) ⟨_, rfl, rfl, rfl⟩ ?_ ?_
  · rintro i c σ H' hc ⟨k, rfl, rfl, ha⟩
    have hc' : x.cps.toList[i]? = some c := (Array.getElem?_toList (xs := x.cps) (i := i)).trans hc
    refine ⟨_, rfl, _, _, rfl, rfl, _, rfl, ?_⟩
    by_cases h1 : 32 ≤ c
    · have e1 : (!decide ((⟨#[c]⟩ : Str).cps.toList < (Str.ofString " ").cps.toList)) = true := by
        show (!decide ([c] < [32])) = true
        rw [lt1, decide_eq_false (by omega)]; rfl
      refine ifT e1 ?_
      refine ⟨_, _, rfl, rfl, _, rfl, ?_⟩
      by_cases h2 : c ≤ 126
      · have e2 : (!decide ((Str.ofString "~").cps.toList < (⟨#[c]⟩ : Str).cps.toList)) = true := by
          show (!decide ([126] < [c])) = true
          rw [lt1, decide_eq_false (by omega)]; rfl
        refine ifF (by rw [e2]; rfl) ?_
        refine ⟨_, rfl, _, rfl, rfl, rfl, _, rfl, ?_⟩
        rw [dec_i]
        by_cases h3 : c = 37
        · refine ifT (decide_eq_true (by show (c : Int) = 37; omega)) ?_
          rw [all_stop hc' (by unfold signB; rw [h3]; rfl)] at q
          exact q
        · refine ifF (decide_eq_false ?_) ⟨_, rfl, rfl, ?_⟩
          · show ¬ ((c : Int) = 37)
            omega
          · rw [all_take hc' ha]; unfold signB; rw [decide_eq_true h1, decide_eq_true h2, decide_eq_false h3]; rfl
      · have e2 : (!decide ((Str.ofString "~").cps.toList < (⟨#[c]⟩ : Str).cps.toList)) = false := by
          show (!decide ([126] < [c])) = false
          rw [lt1, decide_eq_true (by omega)]; rfl
        refine ifT (by rw [e2]; rfl) ?_
        rw [all_stop hc' (by unfold signB; rw [decide_eq_false h2, Bool.and_false, Bool.false_and])] at q
        exact q
    · have e1 : (!decide ((⟨#[c]⟩ : Str).cps.toList < (Str.ofString " ").cps.toList)) = false := by
        show (!decide ([c] < [32])) = false
        rw [lt1, decide_eq_true (by omega)]; rfl
      refine ifF e1 ⟨_, rfl, ifT rfl ?_⟩
      rw [all_stop hc' (by unfold signB; rw [decide_eq_false h1, Bool.false_and, Bool.false_and])] at q
      exact q
  · rintro σ H' ⟨k, rfl, rfl, ha⟩
    have : x.cps.size = x.cps.toList.length := by simp
    rw [show x.cps.toList.all signB = true by rw [← ha]; congr 1; exact (List.take_of_length_le (by first | exact Nat.le_refl _ | simp [Str.length])).symm] at q
    exact q
theorem withinL_take {ts : List Ob} {d i : Nat} {t : Ob} (e : ts[i]? = some t) (h : withinL (ts.take i) d = true) : withinL (ts.take (i + 1)) d = within t d := by
  have : ∀ (l : List Ob), withinL l d = true → withinL (l ++ [t]) d = within t d := fun l => by
    induction l with
    | nil => intro _; show (within t d && true) = _; rw [Bool.and_true]
    | cons u r ih =>
      intro h
      have h' : (within u d && withinL r d) = true := h
      rw [Bool.and_eq_true] at h'
      show (within u d && withinL (r ++ [t]) d) = _
      rw [h'.1, Bool.true_and]; exact ih h'.2
  rw [List.take_add_one, e]
  exact this _ h
theorem withinL_stop {d : Nat} {t : Ob} : ∀ {ts : List Ob} {i : Nat}, ts[i]? = some t → within t d = false → withinL ts d = false
  | [], i, e, _ => by simp at e
  | u :: r, 0, e, h => by simp at e; subst e; show (within u d && withinL r d) = false; rw [h]; rfl
  | u :: r, i + 1, e, h => by show (within u d && withinL r d) = false; rw [withinL_stop (i := i) (by simpa using e) h, Bool.and_false]
theorem ok_tupleO {n : Nat} (D : Dfn K mg "is_tuple_within" sis_tuple_within ["parts", "deep"]) (F_is_thing_within : Fn P w K mg base "is_thing_within" (2 * n + 2) ["thing", "deep"] (spWO CN n)) (m_len : mg "len" = none) (g_MOST_PARTS : mg "MOST_PARTS" = some (.int 40 t2)) : Fn P w K mg base "is_tuple_within" (2 * n + 3) ["parts", "deep"] (spTO CN n) := by
  refine D.ok (k := 2 * n + 2) scis_tuple_within (fun vs H Q E h => ?_) (fun f cdv A outer s H vs Q E hr h => ?_)
  · obtain ⟨ts, v, d, rfl, _⟩ := h; rfl
  obtain ⟨ts, v, d, rfl, rv, ok, hdn, q⟩ := h
  cases rv with
  | @tup a xs _ e l h =>
  have h900 : ts.length ≤ 900 := ok.1
  refine ⟨_, (pss_cons (ps_if (PW.pt (pw_or (pt_cmpR op_eq (pv 1) pe_int (nomark _)) (pw_or1 (pt_cmpR op_gt (pe_callB (call_len_seq) (by rfl) m_len (by rfl) (pa_cons (pv 0) pa_nil)) (pe_glob (v := .int 40) (by rfl) g_MOST_PARTS ⟨_, rfl⟩) (nomark _)))))
  (pss_one (ps_ret pe_bl))
  pss_nil)
 (pss_cons (ps_for PassesOwn.never rfl (pi_tup (pv 0)) (pg_name (i := 2) scis_tuple_within.nd rfl (Or.inl rfl))
  (pss_one (ps_if (pt_not (pt_val (pe_fn F_is_thing_within hr (by omega) (by rfl) (pa_cons (pv 2) (pa_cons (pe_op op_sub (pv 1) pe_int) pa_nil)))))
  (pss_one (ps_ret pe_bl))
  pss_nil)))
 (pss_one (ps_ret pe_bl)))), ?_⟩
  refine ⟨_, rfl, rfl, _, rfl, ?_⟩
  rw [dec_i]
  cases d with
  | zero => exact ifT (decide_eq_true rfl) (ifT rfl q)
  | succ d' =>
  have ed : ((d' + 1 : Nat) : Int) - 1 = (d' : Int) := by omega
  refine ifF (decide_eq_false (by omega)) ?_
  refine ⟨_, rfl, a, xs, rfl, .inr (SqT.of e), _, _, rfl, rfl, _, rfl, ?_⟩
  by_cases h40 : ts.length ≤ 40
  · refine ifF (decide_eq_false (by omega)) ?_
    have q' : Q (.bl (withinL ts d')) H := by
      have e : within (.tup ts) (d' + 1) = withinL ts d' := by show (decide (ts.length ≤ 40) && withinL ts d') = _; rw [decide_eq_true h40, Bool.true_and]
      rw [← e]; exact q
    refine ⟨_, rfl, a, rfl, ⟨_, SqT.of e⟩, ?_⟩
    refine for_tup (xs := xs) (fun i σ H' => ∃ kk, σ = [some (.ref a), some (.int ((d' + 1 : Nat) : Int)), kk] ∧ H' = H ∧ withinL (ts.take i) d' = true) ⟨_, rfl, rfl, rfl⟩ ?_ ?_ ?_
    · rintro i σ H' hi ⟨kk, rfl, rfl, _⟩
      exact SqT.of e
    · rintro i x σ H' hx ⟨kk, rfl, rfl, hw⟩
      have hil : i < ts.length := by rw [← l]; exact (List.getElem?_eq_some_iff.mp hx).1
      have ht : ts[i]? = some ts[i] := List.getElem?_eq_getElem hil
      refine ⟨_, rfl, _, rfl, _, _, rfl, rfl, ts[i], x, d', ?_, h i x _ hx ht, ok.2.get ht, by omega, ?_⟩
      · show [x, V.int (((d' + 1 : Nat) : Int) - 1)] = _
        rw [ed]
      · refine ⟨_, rfl, ?_⟩
        cases z : within ts[i] d' with
        | true => exact ifF rfl ⟨some x, rfl, rfl, by rw [withinL_take ht hw, z]⟩
        | false =>
          refine ifT rfl ?_
          rw [withinL_stop ht z] at q'
          exact q'
    · rintro σ H' ⟨kk, rfl, rfl, hw⟩
      rw [l, List.take_length] at hw
      rw [hw] at q'
      exact q'
  · refine ifT (decide_eq_true (by omega)) ?_
    have e : within (.tup ts) (d' + 1) = false := by show (decide (ts.length ≤ 40) && withinL ts d') = _; rw [decide_eq_false h40]; rfl
    rw [e] at q
    exact q
theorem ok_withinO (nt : NTk K CN) (D : Dfn K mg "is_thing_within" sis_thing_within ["thing", "deep"]) (Dt : Dfn K mg "is_tuple_within" sis_tuple_within ["parts", "deep"]) (F_is_whole : Fn P w K mg base "is_whole" 1 ["value"] (spWholeO CN)) (F_has_signs_of_things : Fn P w K mg base "has_signs_of_things" 1 ["text"] spSignsO)
    (m_isinstance : mg "isinstance" = none) (m_tuple : mg "tuple" = none) (m_str : mg "str" = none) (m_int : mg "int" = none) (m_len : mg "len" = none) (m_abs : mg "abs" = none) (g_MOST_SIGNS : mg "MOST_SIGNS" = some (.int 60 t1)) (g_MOST_PARTS : mg "MOST_PARTS" = some (.int 40 t2)) :
    ∀ n : Nat, Fn P w K mg base "is_thing_within" (2 * n + 2) ["thing", "deep"] (spWO CN n)
  | 0 => D.never fun vs H Q E h => by
      obtain ⟨t, v, d, _, _, _, h1, _⟩ := h
      omega
  | n + 1 => by
    have F_is_tuple_within := ok_tupleO Dt (ok_withinO nt D Dt F_is_whole F_has_signs_of_things m_isinstance m_tuple m_str m_int m_len m_abs g_MOST_SIGNS g_MOST_PARTS n) m_len g_MOST_PARTS
    refine D.ok (k := 2 * n + 3) scis_thing_within (fun vs H Q E h => ?_) (fun f cdv A outer s H vs Q E hr h => ?_)
    · obtain ⟨t, v, d, rfl, _⟩ := h; rfl
    obtain ⟨t, v, d, rfl, rv, ok, hdn, q⟩ := h
    refine ⟨_, (pss_cons (ps_if (pt_val (pe_callB (call_isinstO nt) (by rfl) m_isinstance (by rfl) (pa_cons (pv 0) (pa_cons (pe_bltn (v := .ty "tuple") (by rfl) m_tuple (by rfl) rfl) pa_nil))))
  (pss_one (ps_ret (pe_fn F_is_tuple_within hr (by omega) (by rfl) (pa_cons (pv 0) (pa_cons (pv 1) pa_nil)))))
  pss_nil)
 (pss_cons (ps_if (pt_val (pe_callB (call_isinstO nt) (by rfl) m_isinstance (by rfl) (pa_cons (pv 0) (pa_cons (pe_bltn (v := .ty "str") (by rfl) m_str (by rfl) rfl) pa_nil))))
  (pss_one (ps_ret (pe_and (pe_cmpR op_le (pe_callB (call_len_str) (by rfl) m_len (by rfl) (pa_cons (pv 0) pa_nil)) (pe_glob (v := .int 60) (by rfl) g_MOST_SIGNS ⟨_, rfl⟩) (nomark _)) (pe_one (pe_fn F_has_signs_of_things hr (by omega) (by rfl) (pa_cons (pv 0) pa_nil))))))
  pss_nil)
 (pss_cons (ps_if (pt_val (pe_fn F_is_whole hr (by omega) (by rfl) (pa_cons (pv 0) pa_nil)))
  (pss_one (ps_ret (pe_cmpR op_le (pe_callB (call_abs) (by rfl) m_abs (by rfl) (pa_cons (pv 0) pa_nil)) (pe_op op_pow pe_int pe_int) (nomark _))))
  pss_nil)
 (pss_one (ps_ret (pe_cmpR op_isN (pv 0) pe_non (nomark _))))))), ?_⟩
    refine ⟨_, rfl, t, v, .tuple, rfl, rv, _, rfl, ?_⟩
    cases rv with
    | @tup a xs ts e l h => exact ifT rfl ⟨_, rfl, _, rfl, ts, _, d, rfl, .tup e l h, ok, by omega, q⟩
    | str x =>
      refine ifF rfl ⟨_, rfl, .str x, _, .str, rfl, .str x, _, rfl, ifT rfl ?_⟩
      have hl : x.length ≤ 900 := ok.1
      refine ⟨_, rfl, x, rfl, szl (by omega), _, _, rfl, rfl, _, rfl, ?_⟩
      by_cases h60 : x.length ≤ 60
      · refine ifT (decide_eq_true (by omega)) ⟨_, rfl, x, rfl, ?_⟩
        have e : within (.str x) d = x.cps.toList.all signB := by show (decide (x.length ≤ 60) && x.cps.toList.all signB) = _; rw [decide_eq_true h60, Bool.true_and]
        rw [e] at q; exact q
      · refine ifF (decide_eq_false (by omega)) ?_
        have e : within (.str x) d = false := by show (decide (x.length ≤ 60) && x.cps.toList.all signB) = _; rw [decide_eq_false h60]; rfl
        rw [e] at q; exact q
    | int i =>
      refine ifF rfl ⟨_, rfl, .int i, _, .str, rfl, .int i, _, rfl, ifF rfl ?_⟩
      refine ⟨_, rfl, .int i, _, rfl, .int i, _, rfl, ifT rfl ?_⟩
      exact ⟨_, rfl, i, rfl, _, _, rfl, rfl, ⟨by decide, by decide, by decide⟩, _, _, rfl, rfl, q⟩
    | bl b => exact ifF rfl ⟨_, rfl, .bl b, _, .str, rfl, .bl b, _, rfl, ifF rfl ⟨_, rfl, .bl b, _, rfl, .bl b, _, rfl, ifF rfl ⟨_, rfl, rfl, q⟩⟩⟩
    | non => exact ifF rfl ⟨_, rfl, .non, _, .str, rfl, .non, _, rfl, ifF rfl ⟨_, rfl, .non, _, rfl, .non, _, rfl, ifF rfl ⟨_, rfl, rfl, q⟩⟩⟩
    | lst e => exact ifF rfl ⟨_, rfl, .odd 0, _, .str, rfl, .lst e, _, rfl, ifF rfl ⟨_, rfl, .odd 0, _, rfl, .lst e, _, rfl, ifF rfl ⟨_, rfl, rfl, q⟩⟩⟩
    | dic e => exact ifF rfl ⟨_, rfl, .odd 1, _, .str, rfl, .dic e, _, rfl, ifF rfl ⟨_, rfl, .odd 1, _, rfl, .dic e, _, rfl, ifF rfl ⟨_, rfl, rfl, q⟩⟩⟩
    | exc e => exact ifF rfl ⟨_, rfl, .odd 2, _, .str, rfl, .exc e, _, rfl, ifF rfl ⟨_, rfl, .odd 2, _, rfl, .exc e, _, rfl, ifF rfl ⟨_, rfl, rfl, q⟩⟩⟩
theorem ok_isO (D : Dfn K mg "is_thing" sis_thing ["thing"]) (F_is_thing_within : Fn P w K mg base "is_thing_within" 14 ["thing", "deep"] (spWO CN 6)) (g_MOST_DEEP : mg "MOST_DEEP" = some (.int 5 t3)) : Fn P w K mg base "is_thing" 15 ["thing"] (spIsO CN) := by
  refine D.ok (k := 14) scis_thing (fun vs H Q E h => ?_) (fun f cdv A outer s H vs Q E hr h => ?_)
  · obtain ⟨t, v, rfl, _⟩ := h; rfl
  obtain ⟨t, v, rfl, rv, ok, q⟩ := h
  exact ⟨_, (pss_one (ps_ret (pe_fn F_is_thing_within hr (by omega) (by rfl) (pa_cons (pv 0) (pa_cons (pe_glob (v := .int 5) (by rfl) g_MOST_DEEP ⟨_, rfl⟩) pa_nil))))), ⟨_, rfl, t, v, 5, rfl, rv, ok, by omega, q⟩⟩
end
end Pv
set_option Elab.async false
set_option linter.all false
set_option maxRecDepth 100000
set_option maxHeartbeats 4000000
namespace Pv
open PySem L2
abbrev s_law_deep : Stmt := top 24
theorem sc_law_deep : FnScope ["thing"] ["thing"] (defScope s_law_deep) := ⟨rfl, rfl, rfl, by decide +kernel, rfl, by decide +kernel, by decide +kernel⟩
abbrev s_law_fine : Stmt := top 25
theorem sc_law_fine : FnScope ["thing"] ["thing"] (defScope s_law_fine) := ⟨rfl, rfl, rfl, by decide +kernel, rfl, by decide +kernel, by decide +kernel⟩
abbrev s_law_right : Stmt := top 26
theorem sc_law_right : FnScope ["thing", "told"] ["thing"] (defScope s_law_right) := ⟨rfl, rfl, rfl, by decide +kernel, rfl, by decide +kernel, by decide +kernel⟩
theorem same_upd {H H1 : Hp} {p : Addr} {o : HO} (s : Same H H1) (h : H p = none) : Same H (upd H1 p o) := fun b u q => by rw [upd_ne (ne_of_none q h)]; exact s _ _ q
theorem same_new {H H1 : Hp} {p : Addr} {o : HO} (s : Same H H1) (h : H1 p = none) : Same H (upd H1 p o) := fun b u q => by rw [upd_ne (ne_of_none (s _ _ q) h)]; exact s _ _ q
def spDeep (CN : Addr) (n : Nat) : Sp := fun vs H Q _ => ∃ (t : Ob) (v : V), vs = [v] ∧ RepO CN H t v ∧ OkO t ∧ deepO t < n ∧ ∀ H', Same H H' → Q (.int (deepO t : Nat)) H'
def spFine (CN : Addr) (n : Nat) : Sp := fun vs H Q _ => ∃ (t : Ob) (v : V), vs = [v] ∧ RepO CN H t v ∧ OkO t ∧ deepO t < n ∧ ∀ H', Same H H' → Q (.bl (fineO t)) H'
def spRight (CN : Addr) : Sp := fun vs H Q _ => ∃ (t : Ob) (v : V), vs = [v] ∧ RepO CN H t v ∧ OkO t ∧ deepO t < 14 ∧ ∀ H', Same H H' → Q (.bl true) H'
theorem deepOL_max {ts : List Ob} {m : Int} (hm : m ∈ (0 : Int) :: ts.map (fun t => ((deepO t : Nat) : Int))) (hle : ∀ x ∈ (0 : Int) :: ts.map (fun t => ((deepO t : Nat) : Int)), x ≤ m) : m = (deepOL ts : Nat) := by
  have h0 : 0 ≤ m := hle 0 List.mem_cons_self
  have h1 : deepOL ts ≤ m.toNat := deepOL_le fun t ht => by
    have := hle _ (List.mem_cons_of_mem _ (List.mem_map_of_mem ht))
    omega
  rcases List.mem_cons.mp hm with e | hm
  · omega
  · obtain ⟨t, ht, rfl⟩ := List.mem_map.mp hm
    have := deepOL_mem ht
    omega
theorem fineOL_take {ts : List Ob} {i : Nat} {t : Ob} (e : ts[i]? = some t) : fineOL (ts.take (i + 1)) = (fineOL (ts.take i) && fineO t) := by
  have : ∀ l : List Ob, fineOL (l ++ [t]) = (fineOL l && fineO t) := fun l => by
    induction l with
    | nil => show (fineO t && true) = (true && fineO t); rw [Bool.and_true, Bool.true_and]
    | cons u r ih => show (fineO u && fineOL (r ++ [t])) = (fineO u && fineOL r && fineO t); rw [ih, Bool.and_assoc]
  rw [List.take_add_one, e]
  exact this _
section
variable {P : Program} {w : World} {K : PySem.W.Frag} {mg : Str → Option Value} {base : Heap} {CN : Addr}
theorem ok_deepO (nt : NTk K CN) (D : Dfn K mg "_law_deep" s_law_deep ["thing"]) (m_isinstance : mg "isinstance" = none) (m_tuple : mg "tuple" = none) (m_max : mg "max" = none) :
    ∀ n : Nat, Fn P w K mg base "_law_deep" (n + 2) ["thing"] (spDeep CN n)
  | 0 => D.never fun vs H Q E h => by
      obtain ⟨t, v, _, _, _, h1, _⟩ := h
      omega
  | n + 1 => by
    have F_law_deep := ok_deepO nt D m_isinstance m_tuple m_max n
    refine D.ok (k := n + 2) sc_law_deep (fun vs H Q E h => ?_) (fun f cdv A outer s H vs Q E hr h => ?_)
    · obtain ⟨t, v, rfl, _⟩ := h; rfl
    obtain ⟨t, v, rfl, rv, ok, hd, q⟩ := h
    refine ⟨_, (pss_cons (ps_if (pt_not (pt_val (pe_callB (call_isinstO nt) (by rfl) m_isinstance (by rfl) (pa_cons (pv 0) (pa_cons (pe_bltn (v := .ty "tuple") (by rfl) m_tuple (by rfl) rfl) pa_nil)))))
  (pss_one (ps_ret pe_int))
  pss_nil)
 (pss_one (ps_ret (pe_op op_add pe_int (pe_callB (call_maxI rfl) (by rfl) m_max (by rfl) (pa_cons (pe_op op_cat (pe_lst (pa_cons pe_int pa_nil)) (pe_lcomp (CompScope.zero (by rfl) (by decide +kernel) (by decide +kernel) (by decide +kernel) (by rfl)) rfl (pi_tup (pv 0)) (fun _ _ _ => pts_nil) (fun _ _ _ => (pe_fn F_law_deep hr (by omega) (by rfl) (pa_cons (pv 0) pa_nil))))) pa_nil)))))), ?_⟩
    refine ⟨_, rfl, t, v, .tuple, rfl, rv, _, rfl, ?_⟩
    cases rv with
    | non => exact ifT rfl (q H (Same.refl H))
    | bl b => exact ifT rfl (q H (Same.refl H))
    | int i => exact ifT rfl (q H (Same.refl H))
    | str x => exact ifT rfl (q H (Same.refl H))
    | lst e => exact ifT rfl (q H (Same.refl H))
    | dic e => exact ifT rfl (q H (Same.refl H))
    | exc e => exact ifT rfl (q H (Same.refl H))
    | @tup a xs ts e l h =>
      have h900 : ts.length ≤ 900 := ok.1
      have hd' : deepOL ts + 1 < n + 1 := hd
      refine ifF rfl ⟨szl (show 1 ≤ 1000 by decide), fun p0 hp0 => ?_⟩
      have s0 := same_new (o := .lst [.int 0]) (Same.refl H) hp0
      have e0 : upd H p0 (.lst [.int 0]) p0 = some (.lst [.int 0]) := upd_same
      generalize upd H p0 (.lst [.int 0]) = H0 at s0 e0
      refine ⟨_, rfl, a, rfl, ⟨_, SqT.of (s0 _ _ e)⟩, fun pz hpz => ?_⟩
      refine comp_it (n := xs.length) (fun i acc H' => Same H0 H' ∧ H' pz = some (.lst acc) ∧ acc = ((ts.take i).map fun t => ((deepO t : Nat) : Int)).map V.int) ⟨same_new (Same.refl H0) hpz, upd_same, rfl⟩ ?_ ?_ ?_ ?_
      · rintro i acc H' hi ⟨sm, ez, ea⟩
        exact ⟨xs, xs[i], SqT.of (sm _ _ (s0 _ _ e)), List.getElem?_eq_getElem hi⟩
      · rintro acc H' ⟨sm, ez, ea⟩
        exact ⟨xs, SqT.of (sm _ _ (s0 _ _ e)), Nat.le_refl _⟩
      · rintro i acc H' y H'' hi ⟨sm, ez, ea⟩ ⟨z1, z2⟩
        subst z1
        have ey := z2 xs (SqT.of (sm _ _ (s0 _ _ e)))
        have hit : i < ts.length := by omega
        have ht : ts[i]? = some ts[i] := List.getElem?_eq_getElem hit
        have hdi := deepOL_get ht
        have sH : Same H H'' := fun b o e => sm b o (s0 b o e)
        have la : acc.length = i := by rw [ea, List.length_map, List.length_map, List.length_take]; omega
        refine tt1 ⟨_, rfl, ts[i], y, rfl, (h i y _ ey ht).keep (.of sH), ok.2.get ht, by omega, fun H3 s3 => ⟨s3 _ _ ez, Nat.lt_of_lt_of_le (show acc.length < 1000 by omega) (szl (Nat.le_refl _)), nxt hi ⟨same_upd (fun b o e => s3 b o (sm b o e)) hpz, upd_same, ?_⟩⟩⟩
        rw [ea, List.take_add_one, ht, List.map_append, List.map_append]
        rfl
      · rintro acc H1 ⟨s1, ez, ea⟩
        rw [l, List.take_length] at ea
        refine ⟨p0, pz, _, _, rfl, rfl, s1 _ _ e0, ez, szl (by rw [ea, List.length_map, List.length_map]; show 1 + ts.length ≤ 1000; omega), fun pc hpc => ?_⟩
        refine ⟨pc, (0 : Int) :: ts.map fun t => ((deepO t : Nat) : Int), rfl, SqL.of (by rw [upd_same, ea]; rfl), Nat.succ_pos _, fun m hm hle => ?_⟩
        refine ⟨_, _, rfl, rfl, ?_⟩
        have em := deepOL_max hm hle
        have : (1 : Int) + m = ((deepO (.tup ts) : Nat) : Int) := by show (1 : Int) + m = ((deepOL ts + 1 : Nat) : Int); omega
        show Q (.int ((1 : Int) + m)) _
        rw [this]
        exact q _ (same_new (fun b o e => s1 b o (s0 b o e)) hpc)
def badSign (c : Nat) : Bool := decide (c < 32) || decide (126 < c)
theorem ok_fineO (nt : NTk K CN) (D : Dfn K mg "_law_fine" s_law_fine ["thing"]) (m_isinstance : mg "isinstance" = none) (m_tuple : mg "tuple" = none) (m_str : mg "str" = none) (m_int : mg "int" = none) (m_bool : mg "bool" = none) (m_len : mg "len" = none) (m_ord : mg "ord" = none) (m_abs : mg "abs" = none) :
    ∀ n : Nat, Fn P w K mg base "_law_fine" (n + 2) ["thing"] (spFine CN n)
  | 0 => D.never fun vs H Q E h => by
      obtain ⟨t, v, _, _, _, h1, _⟩ := h
      omega
  | n + 1 => by
    have F_law_fine := ok_fineO nt D m_isinstance m_tuple m_str m_int m_bool m_len m_ord m_abs n
    refine D.ok (k := n + 2) sc_law_fine (fun vs H Q E h => ?_) (fun f cdv A outer s H vs Q E hr h => ?_)
    · obtain ⟨t, v, rfl, _⟩ := h; rfl
    obtain ⟨t, v, rfl, rv, ok, hd, q⟩ := h
    have q0 := q H (Same.refl H)
    refine ⟨_, (pss_cons (ps_if (pt_cmpR op_isN (pv 0) pe_non (nomark _))
  (pss_one (ps_ret pe_bl))
  pss_nil)
 (pss_cons (ps_if (pt_val (pe_callB (call_isinstO nt) (by rfl) m_isinstance (by rfl) (pa_cons (pv 0) (pa_cons (pe_bltn (v := .ty "tuple") (by rfl) m_tuple (by rfl) rfl) pa_nil))))
  (pss_one (ps_ret (pe_and (pe_cmpR op_le (pe_callB (CallR.or call_len_seq call_len_str) (by rfl) m_len (by rfl) (pa_cons (pv 0) pa_nil)) pe_int (nomark _)) (pe_one (pe_cmpR (op_eqNil hr) (pe_lcomp (CompScope.zero (by rfl) (by decide +kernel) (by decide +kernel) (by decide +kernel) (by rfl)) rfl (pi_tup (pv 0)) (fun _ _ _ => pts_one (pt_not (pt_val (pe_fn F_law_fine hr (by omega) (by rfl) (pa_cons (pv 0) pa_nil))))) (fun _ _ _ => (pv 0))) (pe_lst pa_nil) (nomark _))))))
  pss_nil)
 (pss_cons (ps_if (pt_val (pe_callB (call_isinstO nt) (by rfl) m_isinstance (by rfl) (pa_cons (pv 0) (pa_cons (pe_bltn (v := .ty "str") (by rfl) m_str (by rfl) rfl) pa_nil))))
  (pss_one (ps_ret (pe_and (pe_cmpR op_lt (pe_callB (CallR.or call_len_seq call_len_str) (by rfl) m_len (by rfl) (pa_cons (pv 0) pa_nil)) pe_int (nomark _)) (pe_one (pe_cmpR (op_eqNil hr) (pe_lcomp (CompScope.zero (by rfl) (by decide +kernel) (by decide +kernel) (by decide +kernel) (by rfl)) rfl (pi_str (pv 0)) (fun _ _ _ => pts_one (PW.pt (pw_or (pt_cmpR op_lt (pe_callB (call_ord) (by rfl) m_ord (by rfl) (pa_cons (pv 0) pa_nil)) pe_int (nomark _)) (pw_or1 (pt_cmpR op_gt (pe_callB (call_ord) (by rfl) m_ord (by rfl) (pa_cons (pv 0) pa_nil)) pe_int (nomark _)))))) (fun _ _ _ => (pv 0))) (pe_lst pa_nil) (nomark _))))))
  pss_nil)
 (pss_one (ps_ret (pe_and (pe_callB (call_isinstO nt) (by rfl) m_isinstance (by rfl) (pa_cons (pv 0) (pa_cons (pe_bltn (v := .ty "int") (by rfl) m_int (by rfl) rfl) pa_nil))) (pe_and (pe_not (pe_callB (call_isinstO nt) (by rfl) m_isinstance (by rfl) (pa_cons (pv 0) (pa_cons (pe_bltn (v := .ty "bool") (by rfl) m_bool (by rfl) rfl) pa_nil)))) (pe_one (pe_cmpR op_le (pe_callB (call_abs) (by rfl) m_abs (by rfl) (pa_cons (pv 0) pa_nil)) (pe_op op_pow pe_int pe_int) (nomark _)))))))))), ?_⟩
    refine ⟨_, rfl, rfl, _, rfl, ?_⟩
    cases rv with
    | non => exact ifT rfl q0
    | bl b => exact ifF rfl ⟨_, rfl, .bl b, _, .tuple, rfl, .bl b, _, rfl, ifF rfl ⟨_, rfl, .bl b, _, .str, rfl, .bl b, _, rfl, ifF rfl ⟨_, rfl, .bl b, _, .int, rfl, .bl b, _, rfl, ifT rfl ⟨_, rfl, .bl b, _, .bool, rfl, .bl b, _, rfl, _, rfl, ifF rfl q0⟩⟩⟩⟩
    | int i =>
      refine ifF rfl ⟨_, rfl, .int i, _, .tuple, rfl, .int i, _, rfl, ifF rfl ⟨_, rfl, .int i, _, .str, rfl, .int i, _, rfl, ifF rfl ⟨_, rfl, .int i, _, .int, rfl, .int i, _, rfl, ifT rfl ⟨_, rfl, .int i, _, .bool, rfl, .int i, _, rfl, _, rfl, ifT rfl ?_⟩⟩⟩⟩
      exact ⟨_, rfl, i, rfl, _, _, rfl, rfl, ⟨by decide, by decide, by decide⟩, _, _, rfl, rfl, q0⟩
    | lst e => exact ifF rfl ⟨_, rfl, .odd 0, _, .tuple, rfl, .lst e, _, rfl, ifF rfl ⟨_, rfl, .odd 0, _, .str, rfl, .lst e, _, rfl, ifF rfl ⟨_, rfl, .odd 0, _, .int, rfl, .lst e, _, rfl, ifF rfl q0⟩⟩⟩
    | dic e => exact ifF rfl ⟨_, rfl, .odd 1, _, .tuple, rfl, .dic e, _, rfl, ifF rfl ⟨_, rfl, .odd 1, _, .str, rfl, .dic e, _, rfl, ifF rfl ⟨_, rfl, .odd 1, _, .int, rfl, .dic e, _, rfl, ifF rfl q0⟩⟩⟩
    | exc e => exact ifF rfl ⟨_, rfl, .odd 2, _, .tuple, rfl, .exc e, _, rfl, ifF rfl ⟨_, rfl, .odd 2, _, .str, rfl, .exc e, _, rfl, ifF rfl ⟨_, rfl, .odd 2, _, .int, rfl, .exc e, _, rfl, ifF rfl q0⟩⟩⟩
    | str x =>
      have hl : x.length ≤ 900 := ok.1
      have hsz : x.cps.toList.length = x.length := by simp [Str.length]
      refine ifF rfl ⟨_, rfl, .str x, _, .tuple, rfl, .str x, _, rfl, ifF rfl ⟨_, rfl, .str x, _, .str, rfl, .str x, _, rfl, ifT rfl ?_⟩⟩
      refine ⟨_, rfl, .inr ⟨x, rfl, szl (by omega), _, _, rfl, rfl, _, rfl, ?_⟩⟩
      by_cases h61 : x.length < 61
      · refine ifT (decide_eq_true (by omega)) ?_
        refine ⟨_, rfl, x, rfl, fun pz hpz => ?_⟩
        refine comp_it (n := x.cps.toList.length) (fun i acc H' => Same H H' ∧ H' pz = some (.lst acc) ∧ acc.length ≤ i ∧ acc.isEmpty = (x.cps.toList.take i).all fun c => !badSign c) ⟨same_new (Same.refl H) hpz, upd_same, Nat.le_refl _, rfl⟩ ?_ ?_ ?_ ?_
        · rintro i acc H' hi ⟨sm, ez, la, ea⟩
          show i < x.length
          omega
        · rintro acc H' ⟨sm, ez, la, ea⟩
          show x.length ≤ _
          omega
        · rintro i acc H' y H'' hi ⟨sm, ez, la, ea⟩ ⟨z1, c, hc, rfl⟩
          subst z1
          have hc' : x.cps.toList[i]? = some c := (Array.getElem?_toList (xs := x.cps) (i := i)).trans hc
          have ht : (x.cps.toList.take (i + 1)).all (fun c => !badSign c) = (acc.isEmpty && !badSign c) := by
            rw [List.take_add_one, hc', List.all_append, ea]; simp
          have fin : ∀ b : Bool, badSign c = b → (if b = true then tVar 0 (some (.str ⟨#[c]⟩) :: []) H'' (fun y H3 => H3 pz = some (.lst acc) ∧ acc.length < sizeLine ∧ ∃ m', m' < x.cps.toList.length - i ∧ (m' = x.cps.toList.length - (i + 1) ∧ i + 1 ≤ x.cps.toList.length ∧ (Same H (upd H3 pz (.lst (acc ++ [y]))) ∧ upd H3 pz (.lst (acc ++ [y])) pz = some (.lst (acc ++ [y])) ∧ (acc ++ [y]).length ≤ i + 1 ∧ (acc ++ [y]).isEmpty = (x.cps.toList.take (i + 1)).all fun c => !badSign c)))
              else ∃ m', m' < x.cps.toList.length - i ∧ (m' = x.cps.toList.length - (i + 1) ∧ i + 1 ≤ x.cps.toList.length ∧ (Same H H'' ∧ H'' pz = some (.lst acc) ∧ acc.length ≤ i + 1 ∧ acc.isEmpty = (x.cps.toList.take (i + 1)).all fun c => !badSign c))) := fun b hb => by
            cases b with
            | true =>
              refine ifT rfl ⟨_, rfl, ez, Nat.lt_of_lt_of_le (show acc.length < 1000 by omega) (szl (Nat.le_refl _)), nxt hi ⟨same_upd sm hpz, upd_same, by rw [List.length_append]; show acc.length + 1 ≤ _; omega, ?_⟩⟩
              rw [ht, hb, Bool.not_true, Bool.and_false]
              cases acc <;> rfl
            | false => exact ifF rfl (nxt hi ⟨sm, ez, by omega, by rw [ht, hb, Bool.not_false, Bool.and_true]⟩)
          refine ⟨_, rfl, _, rfl, rfl, _, _, rfl, rfl, _, rfl, ?_⟩
          by_cases h1 : c < 32
          · refine ifT (decide_eq_true (by show (c : Int) < 32; omega)) ?_
            exact fin true (by unfold badSign; rw [decide_eq_true h1]; rfl)
          · refine ifF (decide_eq_false (by show ¬ ((c : Int) < 32); omega)) ?_
            refine ⟨_, rfl, _, rfl, rfl, _, _, rfl, rfl, _, rfl, ?_⟩
            have e : decide ((126 : Int) < (c : Int)) = badSign c := by
              unfold badSign
              rw [decide_eq_false h1, Bool.false_or]
              exact decide_eq_decide.mpr (by omega)
            have := fin (badSign c) rfl
            rw [← e] at this
            exact this
        · rintro acc H1 ⟨s1, ez, la, ea⟩
          rw [List.take_length] at ea
          refine ⟨szl (show 0 ≤ 1000 by decide), fun pn hpn => ⟨pz, pn, acc, rfl, rfl, SqL.of (by rw [upd_ne (ne_of_none ez hpn)]; exact ez), SqL.of upd_same, ?_⟩⟩
          have e : fineO (.str x) = acc.isEmpty := by show (decide (x.length < 61) && _) = _; rw [decide_eq_true h61, Bool.true_and, ea]; rfl
          have := q _ (same_new (o := .lst []) s1 hpn)
          rw [e] at this; exact this
      · refine ifF (decide_eq_false (by omega)) ?_
        have e : fineO (.str x) = false := by show (decide (x.length < 61) && _) = false; rw [decide_eq_false h61]; rfl
        rw [e] at q0; exact q0
    | @tup a xs ts e l h =>
      have h900 : ts.length ≤ 900 := ok.1
      have hd' : deepOL ts + 1 < n + 1 := hd
      refine ifF rfl ⟨_, rfl, .tup ts, _, .tuple, rfl, .tup e l h, _, rfl, ifT rfl ?_⟩
      refine ⟨_, rfl, .inl ⟨a, _, rfl, .inr (SqT.of e), _, _, rfl, rfl, _, rfl, ?_⟩⟩
      by_cases h40 : ts.length ≤ 40
      · refine ifT (decide_eq_true (by omega)) ?_
        refine ⟨_, rfl, a, rfl, ⟨_, SqT.of e⟩, fun pz hpz => ?_⟩
        refine comp_it (n := xs.length) (fun i acc H' => Same H H' ∧ H' pz = some (.lst acc) ∧ acc.length ≤ i ∧ acc.isEmpty = fineOL (ts.take i)) ⟨same_new (Same.refl H) hpz, upd_same, Nat.le_refl _, rfl⟩ ?_ ?_ ?_ ?_
        · rintro i acc H' hi ⟨sm, ez, la, ea⟩
          exact ⟨xs, xs[i], SqT.of (sm _ _ e), List.getElem?_eq_getElem hi⟩
        · rintro acc H' ⟨sm, ez, la, ea⟩
          exact ⟨xs, SqT.of (sm _ _ e), Nat.le_refl _⟩
        · rintro i acc H' y H'' hi ⟨sm, ez, la, ea⟩ ⟨z1, z2⟩
          subst z1
          have ey := z2 xs (SqT.of (sm _ _ e))
          have hit : i < ts.length := by omega
          have ht : ts[i]? = some ts[i] := List.getElem?_eq_getElem hit
          have hdi := deepOL_get ht
          have ry := (h i y _ ey ht).keep (.of sm)
          refine ⟨_, rfl, ts[i], y, rfl, ry, ok.2.get ht, by omega, fun H3 s3 => ⟨_, rfl, ?_⟩⟩
          cases z : fineO ts[i] with
          | true => exact ifF rfl (nxt hi ⟨fun b o e => s3 b o (sm b o e), s3 _ _ ez, by omega, by rw [fineOL_take ht, z, Bool.and_true]; exact ea⟩)
          | false =>
            refine ifT rfl ⟨_, rfl, s3 _ _ ez, Nat.lt_of_lt_of_le (show acc.length < 1000 by omega) (szl (Nat.le_refl _)), nxt hi ⟨same_upd (fun b o e => s3 b o (sm b o e)) hpz, upd_same, by rw [List.length_append]; show acc.length + 1 ≤ _; omega, ?_⟩⟩
            rw [fineOL_take ht, z, Bool.and_false]
            cases acc <;> rfl
        · rintro acc H1 ⟨s1, ez, la, ea⟩
          rw [l, List.take_length] at ea
          refine ⟨szl (show 0 ≤ 1000 by decide), fun pn hpn => ⟨pz, pn, acc, rfl, rfl, SqL.of (by rw [upd_ne (ne_of_none ez hpn)]; exact ez), SqL.of upd_same, ?_⟩⟩
          have e : fineO (.tup ts) = acc.isEmpty := by show (decide (ts.length ≤ 40) && fineOL ts) = _; rw [decide_eq_true h40, Bool.true_and, ea]
          have := q _ (same_new (o := .lst []) s1 hpn)
          rw [e] at this; exact this
      · refine ifF (decide_eq_false (by omega)) ?_
        have e : fineO (.tup ts) = false := by show (decide (ts.length ≤ 40) && _) = false; rw [decide_eq_false h40]; rfl
        rw [e] at q0; exact q0
theorem ok_rightO (nt : NTk K CN) (D : Dfn K mg "_law_right" s_law_right ["thing"]) (F_is_thing : Fn P w K mg base "is_thing" 15 ["thing"] (spIsO CN)) (F_law_deep : Fn P w K mg base "_law_deep" 16 ["thing"] (spDeep CN 14)) (F_law_fine : Fn P w K mg base "_law_fine" 16 ["thing"] (spFine CN 14)) (m_isinstance : mg "isinstance" = none) (m_bool : mg "bool" = none) : Fn P w K mg base "_law_right" 17 ["thing"] (spRight CN) := by
  refine D.ok (k := 16) sc_law_right (fun vs H Q E h => ?_) (fun f cdv A outer s H vs Q E hr h => ?_)
  · obtain ⟨t, v, rfl, _⟩ := h; rfl
  obtain ⟨t, v, rfl, rv, ok, hd, q⟩ := h
  refine ⟨_, (pss_cons (ps_set (i := 1) sc_law_right.nd rfl (Or.inl rfl) (pe_fn F_is_thing hr (by omega) (by rfl) (pa_cons (pv 0) pa_nil)))
 (pss_one (ps_ret (pe_and (pe_callB (call_isinst) (by rfl) m_isinstance (by rfl) (pa_cons (pv 1) (pa_cons (pe_bltn (v := .ty "bool") (by rfl) m_bool (by rfl) rfl) pa_nil))) (pe_one (pe_cmpR op_eq (pv 1) (pe_and (pe_cmpR op_le (pe_fn F_law_deep hr (by omega) (by rfl) (pa_cons (pv 0) pa_nil)) pe_int (nomark _)) (pe_one (pe_fn F_law_fine hr (by omega) (by rfl) (pa_cons (pv 0) pa_nil)))) (nomark _))))))), ?_⟩
  refine ⟨_, rfl, t, v, rfl, rv, ok, ?_⟩
  refine ⟨_, rfl, _, _, _, _, rfl, .bl _, rfl, _, rfl, ifT rfl ?_⟩
  refine ⟨_, rfl, _, rfl, t, v, rfl, rv, ok, hd, fun H1 s1 => ?_⟩
  have we := within_eq t 5 ok
  refine ⟨_, _, rfl, rfl, _, rfl, ?_⟩
  by_cases h5 : deepO t ≤ 5
  · refine ifT (decide_eq_true (by omega)) ?_
    refine ⟨_, rfl, t, v, rfl, rv.keep (.of s1), ok, hd, fun H2 s2 => ⟨rfl, ?_⟩⟩
    rw [decide_eq_true h5, Bool.true_and] at we
    rw [we, decide_eq_true rfl]
    exact q _ fun b o e => s2 b o (s1 b o e)
  · refine ifF (decide_eq_false (by omega)) ⟨rfl, ?_⟩
    rw [decide_eq_false h5, Bool.false_and] at we
    rw [we, decide_eq_true rfl]
    exact q _ s1
end
end Pv
set_option Elab.async false
set_option linter.all false
set_option maxRecDepth 100000
set_option maxHeartbeats 4000000
namespace Pv
open PySem L2
abbrev s_law_bad : Stmt := top 20
theorem sc_law_bad : FnScope ["row", "sign", "text", "at", "far", "some"] ["row"] (defScope s_law_bad) := ⟨rfl, rfl, rfl, by decide +kernel, rfl, by decide +kernel, by decide +kernel⟩
/-- what is put in: by itself -/
inductive BadV (CN : Addr) (H : Hp) (row : Addr) : Ob → V → Prop where
  | bl (b : Bool) : BadV CN H row (.bl b) (.bl b)
  | int (i : Int) : BadV CN H row (.int i) (.int i)
  | str (x : Str) : BadV CN H row (.str x) (.str x)
  | tup {ts : List Th} {v : V} (r : Rep H (.tup ts) v) (d : dep (.tup ts) ≤ 1) : BadV CN H row (ofT (.tup ts)) v
  | lst {a : Addr} {xs : List V} {ts : List Th} (e : H a = some (.lst xs)) (n : a ≠ row) (r : RepL H ts xs) (d : ∀ t ∈ ts, dep t ≤ 50) (l : ts.length ≤ 2) : BadV CN H row (.odd 0) (.ref a)
  | dic {a : Addr} (e : H a = some (.dK [])) : BadV CN H row (.odd 1) (.ref a)
  | exc {a : Addr} (e : H a = some (exO a CN none true)) : BadV CN H row (.odd 2) (.ref a)
theorem BadV.rep {CN row : Addr} {H : Hp} {t : Ob} {v : V} (b : BadV CN H row t v) : RepO CN H t v := by
  cases b with
  | bl b => exact .bl b
  | int i => exact .int i
  | str x => exact .str x
  | tup r d => exact r.toO
  | lst e n r d l => exact .lst e
  | dic e => exact .dic e
  | exc e => exact .exc e
theorem RowOk.not {H : Hp} {row b : Addr} {o : HO} (R : RowOk H row) (n : ∀ xs, o ≠ .lst xs) (e : H b = some o) : b ∉ [row] := not1 fun z => by
  obtain ⟨x, m, e', _⟩ := R
  rw [z, e'] at e
  exact n _ (Option.some.inj e).symm
theorem Frm.tupsR {H H' : Hp} {row : Addr} (f : Frm [row] H H') (R : RowOk H row) : Tups H H' := fun b xs e => f b _ (R.not (by intro ys z; cases z) e) e
theorem Frm.kept {H H' : Hp} {row : Addr} (f : Frm [row] H H') (R : RowOk H row) (R' : RowOk H' row) : Kept H H' := fun b o e => by
  by_cases z : b = row
  · obtain ⟨x, m, e', _⟩ := R
    obtain ⟨x2, m2, e2, _⟩ := R'
    rw [z, e'] at e
    exact .inr ⟨_, _, (Option.some.inj e).symm, by rw [z]; exact e2⟩
  · exact .inl (f b o (not1 z) e)
theorem BadV.keep {CN row : Addr} {H H' : Hp} {t : Ob} {v : V} (b : BadV CN H row t v) (f : Frm [row] H H') (R : RowOk H row) : BadV CN H' row t v := by
  cases b with
  | bl b => exact .bl b
  | int i => exact .int i
  | str x => exact .str x
  | tup r d => exact .tup (r.keep (f.tupsR R)) d
  | lst e n r d l => exact .lst (f _ _ (not1 n) e) n (r.keep (f.tupsR R)) d l
  | dic e => exact .dic (f _ _ (R.not (by intro xs z; cases z) e) e)
  | exc e => exact .exc (f _ _ (R.not (by intro xs z; cases z) e) e)
def BadAll (CN : Addr) (H : Hp) (row : Addr) (xs : List V) : Prop := ∀ x ∈ xs, ∃ t, BadV CN H row t x ∧ OkO t ∧ deepO t ≤ 1
theorem BadAll.keep {CN row : Addr} {H H' : Hp} {xs : List V} (b : BadAll CN H row xs) (f : Frm [row] H H') (R : RowOk H row) : BadAll CN H' row xs := fun x hx => by
  obtain ⟨t, h1, h2, h3⟩ := b x hx
  exact ⟨t, h1.keep f R, h2, h3⟩
def spBad (CN : Addr) : Sp := fun vs H Q _ => ∃ (row : Addr), vs = [.ref row] ∧ RowOk H row ∧ ∀ (t : Ob) (v : V) (H' : Hp), Frm [row] H H' → RowOk H' row → BadV CN H' row t v → OkO t → deepO t ≤ 1 → Q v H'
theorem pick_ix {α : Type} {xs : List α} {r : Int} (h0 : 0 ≤ r) (h1 : r < xs.length) : ∃ x, atI xs r = some x ∧ x ∈ xs := by
  have hi : r.toNat < xs.length := by omega
  have e : r = ((r.toNat : Nat) : Int) := by omega
  have := atI_nat (List.getElem?_eq_getElem hi)
  rw [← e] at this
  exact ⟨_, this, List.getElem_mem hi⟩
theorem grow {H : Hp} {row p : Addr} {o : HO} (hp : H p = none) (R : RowOk H row) : Frm [row] H (upd H p o) ∧ RowOk (upd H p o) row ∧ upd H p o p = some o ∧ p ≠ row := ⟨Frm.new hp, R.new hp, upd_same, R.neNew hp⟩
theorem BadV.some {CN row a : Addr} {H : Hp} {t : Ob} (b : BadV CN H row t (.ref a)) : ∃ o, H a = Option.some o := by
  generalize e0 : V.ref a = v at b
  cases b with
  | bl b => cases e0
  | int i => cases e0
  | str x => cases e0
  | tup r d =>
    cases r with
    | tup e l h => cases e0; exact ⟨_, e⟩
  | lst e n r d l => cases e0; exact ⟨_, e⟩
  | dic e => cases e0; exact ⟨_, e⟩
  | exc e => cases e0; exact ⟨_, e⟩
theorem BadV.put {CN row p : Addr} {H : Hp} {t : Ob} {v : V} {xs ys : List V} (b : BadV CN H row t v) (e0 : H p = Option.some (.lst xs)) (n0 : v ≠ .ref p) : BadV CN (upd H p (.lst ys)) row t v := by
  have tk : Tups H (upd H p (.lst ys)) := Tups.upd fun zs z => by rw [e0] at z; cases z
  cases b with
  | bl b => exact .bl b
  | int i => exact .int i
  | str x => exact .str x
  | tup r d => exact .tup (r.keep tk) d
  | lst e n r d l => exact .lst (by rw [upd_ne (fun z => n0 (by rw [z]))]; exact e) n (r.keep tk) d l
  | dic e => exact .dic (by rw [upd_ne (fun z => n0 (by rw [z]))]; exact e)
  | exc e => exact .exc (by rw [upd_ne (fun z => n0 (by rw [z]))]; exact e)
theorem BadAll.snoc {CN row p : Addr} {H : Hp} {xs : List V} {x : V} (b : BadAll CN H row xs) (e0 : H p = Option.some (.lst xs)) (nr : ∀ v ∈ xs, v ≠ .ref p) (hx : ∃ t, BadV CN (upd H p (.lst (xs ++ [x]))) row t x ∧ OkO t ∧ deepO t ≤ 1) : BadAll CN (upd H p (.lst (xs ++ [x]))) row (xs ++ [x]) := fun v hv => by
  rcases List.mem_append.mp hv with hv | hv
  · obtain ⟨t, h1, h2, h3⟩ := b v hv
    exact ⟨t, h1.put e0 (nr v hv), h2, h3⟩
  · rw [List.mem_singleton.mp hv]; exact hx
theorem RowOk.upd {H : Hp} {row p : Addr} {o : HO} (R : RowOk H row) (n : row ≠ p) : RowOk (L2.upd H p o) row := by
  obtain ⟨x, m, e, h⟩ := R
  exact ⟨x, m, by rw [upd_ne n]; exact e, h⟩
theorem Frm.put {H H' : Hp} {row p : Addr} {o : HO} (f : Frm [row] H H') (h0 : H p = none) : Frm [row] H (L2.upd H' p o) := fun b u n e => by
  rw [upd_ne (ne_of_none e h0)]; exact f b u n e
theorem rep_fold (a : Array Nat) : ∀ (n : Nat) (acc : Array Nat), ((List.replicate n a).foldl (· ++ ·) acc).toList = acc.toList ++ (List.replicate n a.toList).flatten
  | 0, acc => by simp
  | n + 1, acc => by
    show ((List.replicate n a).foldl (· ++ ·) (acc ++ a)).toList = _
    rw [rep_fold a n (acc ++ a), List.replicate_succ, List.flatten_cons, Array.toList_append, List.append_assoc]
theorem mul_y {n : Int} (h : 2 ≤ n) : (mulS (Str.ofString "y") n).length = n.toNat ∧ ∀ c ∈ (mulS (Str.ofString "y") n).cps.toList, c = 121 := by
  have e : (mulS (Str.ofString "y") n).cps.toList = List.replicate n.toNat 121 := by
    unfold mulS
    rw [if_neg (by omega), if_neg (by
      rw [show (Str.ofString "y").length = 1 from by decide +kernel]
      have : (n == 1) = false := by simp; omega
      rw [this]; decide)]
    show ((List.replicate n.toNat (Str.ofString "y").cps).foldl (· ++ ·) #[]).toList = _
    rw [rep_fold, show (Str.ofString "y").cps.toList = [121] from by decide +kernel]
    simp
  refine ⟨?_, fun c hc => ?_⟩
  · show (mulS (Str.ofString "y") n).cps.size = _
    rw [← Array.length_toList, e, List.length_replicate]
  · rw [e] at hc; exact (List.mem_replicate.mp hc).2
section
variable {P : Program} {w : World} {K : PySem.W.Frag} {mg : Str → Option Value} {base : Heap} {CN : Addr}
theorem ok_bad (D : Dfn K mg "_law_bad" s_law_bad ["row"]) (F_law_take : Fn P w K mg base "_law_take" 1 ["row", "many"] spTake) (F_law_text : Fn P w K mg base "_law_text" 2 ["row"] spText) (X_NoThing : XP K mg "NoThing" CN) (m_len : mg "len" = none) : Fn P w K mg base "_law_bad" 3 ["row"] (spBad CN) := by
  refine D.ok (k := 2) sc_law_bad (fun vs H Q E h => ?_) (fun f cdv A outer s H vs Q E hr h => ?_)
  · obtain ⟨row, rfl, _⟩ := h; rfl
  obtain ⟨row, rfl, R0, q⟩ := h
  refine ⟨_, (pss_cons (ps_set (i := 1) sc_law_bad.nd rfl (Or.inl rfl) (pe_ix ix_list (pe_lst (pa_cons pe_str (pa_cons pe_str pa_nil))) (pe_fn F_law_take hr (by omega) (by rfl) (pa_cons (pv 0) (pa_cons pe_int pa_nil))) (fun _ _ => rfl)))
 (pss_cons (ps_set (i := 2) sc_law_bad.nd rfl (Or.inl rfl) (pe_slice sl_str (pe_fn F_law_text hr (by omega) (by rfl) (pa_cons (pv 0) pa_nil)) po_none (po_some pe_int)))
 (pss_cons (ps_set (i := 3) sc_law_bad.nd rfl (Or.inl rfl) (pe_fn F_law_take hr (by omega) (by rfl) (pa_cons (pv 0) (pa_cons (pe_op op_add (pe_callB (call_len_str) (by rfl) m_len (by rfl) (pa_cons (pv 2) pa_nil)) pe_int) pa_nil))))
 (pss_cons (ps_set (i := 4) sc_law_bad.nd rfl (Or.inl rfl) (pe_op op_add (pe_op op_add (pe_op op_pow pe_int pe_int) pe_int) (pe_ix ix_list (pe_lst (pa_cons pe_int (pa_cons (pe_op op_mul (pe_fn F_law_take hr (by omega) (by rfl) (pa_cons (pv 0) (pa_cons (pe_op op_pow pe_int pe_int) pa_nil))) (pe_fn F_law_take hr (by omega) (by rfl) (pa_cons (pv 0) (pa_cons (pe_op op_pow pe_int pe_int) pa_nil)))) (pa_cons (pe_op op_pow pe_int pe_int) pa_nil)))) (pe_fn F_law_take hr (by omega) (by rfl) (pa_cons (pv 0) (pa_cons pe_int pa_nil))) (fun _ _ => rfl))))
 (pss_cons (ps_set (i := 5) sc_law_bad.nd rfl (Or.inl rfl) (pe_lst (pa_cons pe_bl (pa_cons pe_bl (pa_cons (pv 4) (pa_cons (pe_un un_neg (pv 4)) (pa_cons (pe_op op_add_str (pe_op op_add_str (pe_slice sl_str (pv 2) po_none (po_some (pv 3))) (pv 1)) (pe_slice sl_str (pv 2) (po_some (pv 3)) po_none)) (pa_cons (pe_lst pa_nil) (pa_cons (pe_lst (pa_cons pe_int pa_nil)) (pa_cons pe_dnewK (pa_cons (pe_lst (pa_cons pe_str (pa_cons (pe_tup pa_nil) pa_nil))) (pa_cons (pe_xp X_NoThing (by rfl) (pa_cons pe_str pa_nil)) pa_nil))))))))))))
 (pss_cons (ps_expr (pe_bm PySem.F.plainAttrs_list PySem.F.slot_list_append PySem.F.type_list_append mt_append (pv 5) (pa_cons (pe_op op_add_str (pv 2) (pe_op op_mulS pe_str (pe_op op_add (pe_op op_sub pe_int (pe_callB (call_len_str) (by rfl) m_len (by rfl) (pa_cons (pv 2) pa_nil))) (pe_ix ix_list (pe_lst (pa_cons pe_int (pa_cons pe_int (pa_cons pe_int pa_nil)))) (pe_fn F_law_take hr (by omega) (by rfl) (pa_cons (pv 0) (pa_cons pe_int pa_nil))) (fun _ _ => rfl))))) pa_nil)))
 (pss_cons (ps_expr (pe_bm PySem.F.plainAttrs_list PySem.F.slot_list_append PySem.F.type_list_append mt_append (pv 5) (pa_cons (pe_op op_repT (pe_tup (pa_cons pe_non pa_nil)) (pe_op op_add pe_int (pe_fn F_law_take hr (by omega) (by rfl) (pa_cons (pv 0) (pa_cons pe_int pa_nil))))) pa_nil)))
 (pss_one (ps_ret (pe_ix ix_list (pv 5) (pe_fn F_law_take hr (by omega) (by rfl) (pa_cons (pv 0) (pa_cons (pe_callB (call_len_seq) (by rfl) m_len (by rfl) (pa_cons (pv 5) pa_nil)) pa_nil))) (fun _ _ => rfl))))))))))), ?_⟩
  refine ⟨szl (show 2 ≤ 1000 by decide), fun p1 hp1 => ?_⟩
  obtain ⟨f1, R1, e1, n1⟩ := grow (o := .lst [.str "\n", .str "\t"]) hp1 R0
  generalize upd H p1 (.lst [.str "\n", .str "\t"]) = H1 at f1 R1 e1
  refine ⟨_, rfl, row, _, rfl, R1, (show (0 : Int) < 2 by decide), (by decide +kernel), fun r H2 r0 r1 f2 R2 => ?_⟩
  have e2 := f2.at e1 (not1 n1)
  have sg : ∃ z : Str, atI [V.str "\n", V.str "\t"] r = some (.str z) ∧ z.length = 1 ∧ ∀ c ∈ z.cps.toList, c ≠ 37 := by
    rcases (show r = 0 ∨ r = 1 by omega) with rfl | rfl
    · exact ⟨_, rfl, by decide +kernel, by decide +kernel⟩
    · exact ⟨_, rfl, by decide +kernel, by decide +kernel⟩
  obtain ⟨z, ez, lz, hz⟩ := sg
  refine ⟨p1, _, _, _, rfl, rfl, SqL.of e2, ez, ?_⟩
  have F2 := f1.trans f2
  refine ⟨_, rfl, row, rfl, R2, fun x0 H3 tx0 f3 R3 => ?_⟩
  have F3 := F2.trans f3
  refine ⟨_, rfl, x0, rfl, szl (Nat.le_trans tx0.1 (by decide)), ?_⟩
  have lx : (cutS x0 none (some 59)).length ≤ 59 := by
    unfold cutS
    show (List.toArray _).size ≤ 59
    rw [List.size_toArray, List.length_take, HT.sIx_none]
    have : HT.sIx x0.length x0.length (some 59) ≤ 59 := by rw [show (59 : Int) = ((59 : Nat) : Int) from rfl, HT.sIx_nat]; omega
    omega
  have sx : ∀ c ∈ (cutS x0 none (some 59)).cps.toList, c ≠ 37 := fun c hc => (tx0.2 c (cutS_mem hc)).2.2
  generalize cutS x0 none (some 59) = x at lx sx
  have zx : x.length ≤ sizeLine := szl (by omega)
  refine ⟨_, rfl, _, rfl, x, rfl, zx, _, _, rfl, rfl, row, _, rfl, R3, by omega, by omega, fun at_ H4 a0 a1 f4 R4 => ?_⟩
  have F4 := F3.trans f4
  refine ⟨_, _, rfl, rfl, ⟨by decide, by decide, by decide⟩, _, _, rfl, rfl, ?_⟩
  refine ⟨_, rfl, _, _, rfl, rfl, ⟨by decide, by decide, by decide⟩, row, _, rfl, R4, (by decide +kernel), (by decide +kernel), fun u1 H5 u10 u11 f5 R5 => ?_⟩
  refine ⟨_, rfl, _, _, rfl, rfl, ⟨by decide, by decide, by decide⟩, row, _, rfl, R5, (by decide +kernel), (by decide +kernel), fun u2 H6 u20 u21 f6 R6 => ?_⟩
  have F6 := (F4.trans f5).trans f6
  have m1 : u1 < 2 ^ 64 := Int.lt_trans u11 (by decide +kernel)
  refine ⟨_, _, rfl, rfl, .inl ⟨by omega, m1⟩, _, _, rfl, rfl, ⟨by decide, by decide, by decide⟩, szl (show 3 ≤ 1000 by decide), fun p2 hp2 => ?_⟩
  obtain ⟨f7, R7, e7, n7⟩ := grow (o := .lst [.int 0, .int (u1 * u2), .int (10 ^ (60 : Int).toNat)]) hp2 R6
  refine ⟨_, rfl, row, _, rfl, R7, (show (0 : Int) < 3 by decide), (by decide +kernel), fun r3 H8 r30 r31 f8 R8 => ?_⟩
  have e8 := f8.at e7 (not1 n7)
  have sf : ∃ i : Int, atI [V.int 0, V.int (u1 * u2), V.int (10 ^ (60 : Int).toNat)] r3 = some (.int i) := by
    rcases (show r3 = 0 ∨ r3 = 1 ∨ r3 = 2 by omega) with rfl | rfl | rfl <;> exact ⟨_, rfl⟩
  obtain ⟨i3, ei⟩ := sf
  refine ⟨p2, _, _, _, rfl, rfl, SqL.of e8, ei, _, _, rfl, rfl, ?_⟩
  have F8 := (F6.trans f7).trans f8
  have hfar : ∃ far : Int, V.int ((10 : Int) ^ (30 : Int).toNat + 1 + i3) = V.int far := ⟨_, rfl⟩
  obtain ⟨far, hfar⟩ := hfar
  show gName 4 (V.int ((10 : Int) ^ (30 : Int).toNat + 1 + i3)) _ _ _
  rw [hfar]
  refine ⟨_, rfl, _, rfl, _, rfl, ?_⟩
  refine ⟨_, rfl, _, rfl, _, rfl, x, rfl, zx, ?_⟩
  refine ⟨_, rfl, _, _, rfl, rfl, szl (by have := cutS_len x none (some at_); omega), ?_⟩
  refine ⟨_, rfl, _, rfl, _, rfl, x, rfl, zx, _, _, rfl, rfl, szl (by have := cutS_len x none (some at_); have := cutS_len x (some at_) none; rw [str_app_len]; omega), ?_⟩
  have ty : OkO (.str (cutS x none (some at_) ++ z ++ cutS x (some at_) none)) := by
    refine ⟨?_, fun c hc => ?_⟩
    · have := cutS_len x none (some at_); have := cutS_len x (some at_) none; rw [str_app_len, str_app_len]; omega
    · rw [str_app, str_app] at hc
      rcases List.mem_append.mp hc with hc | hc
      · rcases List.mem_append.mp hc with hc | hc
        · exact sx c (cutS_mem hc)
        · exact hz c hc
      · exact sx c (cutS_mem hc)
  generalize cutS x none (some at_) ++ z ++ cutS x (some at_) none = y at ty
  refine ⟨szl (show 0 ≤ 1000 by decide), fun q0 hq0 => ?_⟩
  obtain ⟨f9, R9, e9, n9⟩ := grow (o := .lst []) hq0 R8
  have b9 : BadV CN (upd H8 q0 (.lst [])) row (.odd 0) (.ref q0) := .lst (ts := []) e9 n9 .nil (fun t h => nomatch h) (Nat.zero_le _)
  generalize upd H8 q0 (.lst []) = H9 at f9 R9 e9 b9
  refine ⟨szl (show 1 ≤ 1000 by decide), fun q1 hq1 => ?_⟩
  obtain ⟨f10, R10, e10, n10⟩ := grow (o := .lst [.int 1]) hq1 R9
  have b10 : BadV CN (upd H9 q1 (.lst [.int 1])) row (.odd 0) (.ref q1) := .lst (ts := [.int 1]) e10 n10 (.cons (.int 1) .nil) (fun t h => by cases List.mem_singleton.mp h; exact Nat.zero_le _) (by decide)
  have b9 := b9.keep f10 R9
  generalize upd H9 q1 (.lst [.int 1]) = H10 at f10 R10 e10 b10 b9
  intro q2 hq2
  obtain ⟨f11, R11, e11, n11⟩ := grow (o := .dK []) hq2 R10
  have b11 : BadV CN (upd H10 q2 (.dK [])) row (.odd 1) (.ref q2) := .dic e11
  have b9 := b9.keep f11 R10
  have b10 := b10.keep f11 R10
  generalize upd H10 q2 (.dK []) = H11 at f11 R11 e11 b11 b9 b10
  refine ⟨szl (show 0 ≤ 1000 by decide), fun t0 ht0 => ?_⟩
  obtain ⟨f12, R12, e12, n12⟩ := grow (o := .tup []) ht0 R11
  have b9 := b9.keep f12 R11
  have b10 := b10.keep f12 R11
  have b11 := b11.keep f12 R11
  have u12 : Rep (upd H11 t0 (.tup [])) (.tup []) (.ref t0) := .tup e12 rfl (fun i x t h => by simp at h)
  generalize upd H11 t0 (.tup []) = H12 at f12 R12 e12 b11 b9 b10 u12
  refine ⟨szl (show 2 ≤ 1000 by decide), fun q3 hq3 => ?_⟩
  obtain ⟨f13, R13, e13, n13⟩ := grow (o := .lst [.str "a", .ref t0]) hq3 R12
  have b9 := b9.keep f13 R12
  have b10 := b10.keep f13 R12
  have b11 := b11.keep f13 R12
  have b13 : BadV CN (upd H12 q3 (.lst [.str "a", .ref t0])) row (.odd 0) (.ref q3) := .lst (ts := [.str "a", .tup []]) e13 n13 (.cons (.str _) (.cons (u12.keep (Tups.new hq3)) .nil)) (by
    intro t h
    rcases List.mem_cons.mp h with h | h
    · rw [h]; exact Nat.zero_le _
    · rw [List.mem_singleton.mp h]; exact (show dep (.tup []) ≤ 50 by decide)) (by decide)
  generalize upd H12 q3 (.lst [.str "a", .ref t0]) = H13 at f13 R13 e13 b11 b9 b10 b13
  refine ⟨szl (show 1 ≤ 1000 by decide), fun q4 hq4 => ?_⟩
  obtain ⟨f14, R14, e14, n14⟩ := grow (o := exO q4 CN none true) hq4 R13
  have b9 := b9.keep f14 R13
  have b10 := b10.keep f14 R13
  have b11 := b11.keep f14 R13
  have b13 := b13.keep f14 R13
  have b14 : BadV CN (upd H13 q4 (exO q4 CN none true)) row (.odd 2) (.ref q4) := .exc e14
  generalize upd H13 q4 (exO q4 CN none true) = H14 at f14 R14 e14 b11 b9 b10 b13 b14
  refine ⟨szl (show 10 ≤ 1000 by decide), fun ps hps => ?_⟩
  obtain ⟨f15, R15, e15, n15⟩ := grow (o := .lst [.bl true, .bl false, .int far, .int (-far), .str y, .ref q0, .ref q1, .ref q2, .ref q3, .ref q4]) hps R14
  have ba : BadAll CN (upd H14 ps (.lst [.bl true, .bl false, .int far, .int (-far), .str y, .ref q0, .ref q1, .ref q2, .ref q3, .ref q4])) row [.bl true, .bl false, .int far, .int (-far), .str y, .ref q0, .ref q1, .ref q2, .ref q3, .ref q4] := by
    intro v hv
    simp only [List.mem_cons, List.not_mem_nil, or_false] at hv
    rcases hv with rfl | rfl | rfl | rfl | rfl | rfl | rfl | rfl | rfl | rfl
    · exact ⟨_, .bl _, trivial, Nat.zero_le _⟩
    · exact ⟨_, .bl _, trivial, Nat.zero_le _⟩
    · exact ⟨_, .int _, trivial, Nat.zero_le _⟩
    · exact ⟨_, .int _, trivial, Nat.zero_le _⟩
    · exact ⟨_, .str _, ty, Nat.zero_le _⟩
    · exact ⟨_, b9.keep f15 R14, trivial, Nat.zero_le _⟩
    · exact ⟨_, b10.keep f15 R14, trivial, Nat.zero_le _⟩
    · exact ⟨_, b11.keep f15 R14, trivial, Nat.zero_le _⟩
    · exact ⟨_, b13.keep f15 R14, trivial, Nat.zero_le _⟩
    · exact ⟨_, b14.keep f15 R14, trivial, Nat.zero_le _⟩
  have F15 : Frm [row] H (upd H14 ps (.lst [.bl true, .bl false, .int far, .int (-far), .str y, .ref q0, .ref q1, .ref q2, .ref q3, .ref q4])) := (((((((F8.trans f9).trans f10).trans f11).trans f12).trans f13).trans f14).trans f15)
  have hps0 : H ps = none := by
    cases z : H ps with
    | none => rfl
    | some o =>
      have := ((((((F8.trans f9).trans f10).trans f11).trans f12).trans f13).trans f14) ps o (not1 n15) z
      rw [hps] at this; cases this
  have nr : ∀ v ∈ ([.bl true, .bl false, .int far, .int (-far), .str y, .ref q0, .ref q1, .ref q2, .ref q3, .ref q4] : List V), v ≠ .ref ps := by
    intro v hv
    simp only [List.mem_cons, List.not_mem_nil, or_false] at hv
    have nn : ∀ {t : Ob} {a : Addr}, BadV CN H14 row t (.ref a) → V.ref a ≠ .ref ps := fun {t a} b z => by
      obtain ⟨o, e⟩ := b.some
      rw [V.ref.inj z, hps] at e; cases e
    rcases hv with rfl | rfl | rfl | rfl | rfl | rfl | rfl | rfl | rfl | rfl
    · intro z; cases z
    · intro z; cases z
    · intro z; cases z
    · intro z; cases z
    · intro z; cases z
    · exact nn b9
    · exact nn b10
    · exact nn b11
    · exact nn b13
    · exact nn b14
  have l15 : ([.bl true, .bl false, .int far, .int (-far), .str y, .ref q0, .ref q1, .ref q2, .ref q3, .ref q4] : List V).length = 10 := rfl
  generalize [V.bl true, .bl false, .int far, .int (-far), .str y, .ref q0, .ref q1, .ref q2, .ref q3, .ref q4] = xs at *
  generalize upd H14 ps (.lst xs) = H15 at f15 R15 e15 ba F15
  refine ⟨_, rfl, .inl ⟨rfl, _, SqL.of e15⟩, _, rfl, _, rfl, x, rfl, zx, _, _, rfl, rfl, szl (show 3 ≤ 1000 by decide), fun p3 hp3 => ?_⟩
  obtain ⟨f16, R16, e16, n16⟩ := grow (o := .lst [.int 0, .int 1, .int 400]) hp3 R15
  have s15 : upd H15 p3 (.lst [.int 0, .int 1, .int 400]) ps = some (.lst xs) := f16.at e15 (not1 n15)
  have ba := ba.keep f16 R15
  generalize upd H15 p3 (.lst [.int 0, .int 1, .int 400]) = H16 at f16 R16 e16 s15 ba
  refine ⟨_, rfl, row, _, rfl, R16, (show (0 : Int) < 3 by decide), (by decide +kernel), fun r4 H17 r40 r41 f17 R17 => ?_⟩
  have e17 := f17.at e16 (not1 n16)
  have s17 := f17.at s15 (not1 n15)
  have ba := ba.keep f17 R16
  have s4 : ∃ i : Int, atI [V.int 0, V.int 1, V.int 400] r4 = some (.int i) ∧ 0 ≤ i ∧ i ≤ 400 := by
    rcases (show r4 = 0 ∨ r4 = 1 ∨ r4 = 2 by omega) with rfl | rfl | rfl
    · exact ⟨_, rfl, by decide, by decide⟩
    · exact ⟨_, rfl, by decide, by decide⟩
    · exact ⟨_, rfl, by decide, by decide⟩
  obtain ⟨i4, ei4, h40, h41⟩ := s4
  obtain ⟨ml, mc⟩ := mul_y (n := 61 - (x.length : Int) + i4) (by omega)
  refine ⟨p3, _, _, _, rfl, rfl, SqL.of e17, ei4, _, _, rfl, rfl, ?_⟩
  refine ⟨Str.ofString "y", 61 - (x.length : Int) + i4, rfl, rfl, by omega, by omega, by decide +kernel, by rw [ml]; omega, _, _, rfl, rfl, szl (by rw [ml]; omega), ?_⟩
  have tw : OkO (.str (x ++ mulS (Str.ofString "y") (61 - (x.length : Int) + i4))) := by
    refine ⟨by rw [str_app_len, ml]; omega, fun c hc => ?_⟩
    rw [str_app] at hc
    rcases List.mem_append.mp hc with hc | hc
    · exact sx c hc
    · rw [mc c hc]; decide
  generalize x ++ mulS (Str.ofString "y") (61 - (x.length : Int) + i4) = y2 at tw
  refine ⟨ps, xs, _, rfl, rfl, s17, Nat.lt_of_lt_of_le (show xs.length < 1000 by omega) (szl (Nat.le_refl _)), ?_⟩
  have F17 := (F15.trans f16).trans f17
  have ba18 : BadAll CN (upd H17 ps (.lst (xs ++ [.str y2]))) row (xs ++ [.str y2]) := ba.snoc s17 nr ⟨_, .str _, tw, Nat.zero_le _⟩
  have nr18 : ∀ v ∈ xs ++ [V.str y2], v ≠ .ref ps := fun v hv => by
    rcases List.mem_append.mp hv with hv | hv
    · exact nr v hv
    · rw [List.mem_singleton.mp hv]; intro z; cases z
  have R18 := R17.upd (o := .lst (xs ++ [.str y2])) n15.symm
  have F18 := F17.put (o := .lst (xs ++ [.str y2])) hps0
  have s18 : upd H17 ps (.lst (xs ++ [.str y2])) ps = some (.lst (xs ++ [.str y2])) := upd_same
  have l18 : (xs ++ [V.str y2]).length = 11 := by rw [List.length_append, l15]; rfl
  show _
  generalize xs ++ [V.str y2] = xs1 at ba18 nr18 R18 F18 s18 l18
  generalize upd H17 ps (.lst xs1) = H18 at ba18 R18 F18 s18
  refine ⟨_, rfl, .inl ⟨rfl, _, SqL.of s18⟩, szl (show 1 ≤ 1000 by decide), fun p4 hp4 => ?_⟩
  obtain ⟨f19, R19, e19, n19⟩ := grow (o := .tup [.non]) hp4 R18
  have s19 := f19.at s18 (not1 n15)
  have ba19 := ba18.keep f19 R18
  generalize upd H18 p4 (.tup [.non]) = H19 at f19 R19 e19 s19 ba19
  refine ⟨_, rfl, row, _, rfl, R19, (show (0 : Int) < 9 by decide), (by decide +kernel), fun r5 H20 r50 r51 f20 R20 => ?_⟩
  have e20 := f20.at e19 (R19.not (by intro z w; cases w) e19)
  have s20 := f20.at s19 (not1 n15)
  have ba20 := ba19.keep f20 R19
  refine ⟨_, _, rfl, rfl, p4, 41 + r5, .non, rfl, rfl, e20, by omega, by omega, fun pr hpr => ?_⟩
  obtain ⟨f21, R21, e21, n21⟩ := grow (o := .tup (List.replicate (41 + r5).toNat .non)) hpr R20
  have npr : pr ≠ ps := (ne_of_none s20 hpr).symm
  have s21 := f21.at s20 (not1 n15)
  have ba21 := ba20.keep f21 R20
  have F21 := ((F18.trans f19).trans f20).trans f21
  have u21 : Rep (upd H20 pr (.tup (List.replicate (41 + r5).toNat .non))) (.tup (List.replicate (41 + r5).toNat .non)) (.ref pr) := by
    refine .tup e21 (by rw [List.length_replicate, List.length_replicate]) fun i v t h1 h2 => ?_
    have a1 := List.mem_of_getElem? h1
    have a2 := List.mem_of_getElem? h2
    rw [(List.mem_replicate.mp a1).2, (List.mem_replicate.mp a2).2]
    exact .non
  generalize upd H20 pr (.tup (List.replicate (41 + r5).toNat .non)) = H21 at f21 R21 e21 s21 ba21 F21 u21
  have dn : dep (.tup (List.replicate (41 + r5).toNat .non)) ≤ 1 := by
    show depL (List.replicate (41 + r5).toNat .non) + 1 ≤ 1
    have : ∀ n, depL (List.replicate n .non) = 0 := fun n => by
      induction n with
      | zero => rfl
      | succ n ih => rw [List.replicate_succ]; show max 0 (depL _) = 0; rw [ih]; rfl
    rw [this]; exact Nat.le_refl _
  have on : OkO (ofT (.tup (List.replicate (41 + r5).toNat .non))) := by
    refine ⟨by rw [ofL_len, List.length_replicate]; omega, ?_⟩
    have : ∀ n, OkOL (ofL (List.replicate n .non)) := fun n => by
      induction n with
      | zero => exact trivial
      | succ n ih => rw [List.replicate_succ]; exact ⟨trivial, ih⟩
    exact this _
  have dn' : deepO (ofT (.tup (List.replicate (41 + r5).toNat .non))) ≤ 1 := by rw [ofT_deep]; exact dn
  refine ⟨ps, xs1, _, rfl, rfl, s21, Nat.lt_of_lt_of_le (show xs1.length < 1000 by omega) (szl (Nat.le_refl _)), ?_⟩
  have bt : BadV CN H21 row (ofT (.tup (List.replicate (41 + r5).toNat .non))) (.ref pr) := .tup u21 dn
  have ba22 : BadAll CN (upd H21 ps (.lst (xs1 ++ [.ref pr]))) row (xs1 ++ [.ref pr]) := ba21.snoc s21 nr18 ⟨_, bt.put s21 (fun z => npr (V.ref.inj z)), on, dn'⟩
  have R22 := R21.upd (o := .lst (xs1 ++ [.ref pr])) n15.symm
  have F22 := F21.put (o := .lst (xs1 ++ [.ref pr])) hps0
  have s22 : upd H21 ps (.lst (xs1 ++ [.ref pr])) ps = some (.lst (xs1 ++ [.ref pr])) := upd_same
  have l22 : (xs1 ++ [V.ref pr]).length = 12 := by rw [List.length_append, l18]; rfl
  generalize xs1 ++ [V.ref pr] = xs2 at ba22 R22 F22 s22 l22
  generalize upd H21 ps (.lst xs2) = H22 at ba22 R22 F22 s22
  refine ⟨_, rfl, _, rfl, _, rfl, ps, xs2, rfl, .inl (SqL.of s22), row, _, rfl, R22, by rw [l22]; decide, by rw [l22]; decide +kernel, fun r6 H23 r60 r61 f23 R23 => ?_⟩
  obtain ⟨v, ev, hv⟩ := pick_ix r60 r61
  obtain ⟨t, b, ok, dt⟩ := ba22 v hv
  refine ⟨ps, xs2, _, v, rfl, rfl, SqL.of (f23.at s22 (not1 n15)), ev, ?_⟩
  exact q t v H23 (F22.trans f23) R23 (b.keep f23 R22) ok dt
end
end Pv
set_option Elab.async false
set_option linter.all false
set_option maxRecDepth 100000
set_option maxHeartbeats 4000000
namespace Pv
open PySem L2
abbrev s_law_wrapped : Stmt := top 21
theorem sc_law_wrapped : FnScope ["row", "thing", "many", "k", "beside", "at"] ["row", "thing", "many"] (defScope s_law_wrapped) := ⟨rfl, rfl, rfl, by decide +kernel, rfl, by decide +kernel, by decide +kernel⟩
abbrev s_law_put_in : Stmt := top 22
theorem sc_law_put_in : FnScope ["row", "thing", "bad", "at"] ["row", "thing", "bad"] (defScope s_law_put_in) := ⟨rfl, rfl, rfl, by decide +kernel, rfl, by decide +kernel, by decide +kernel⟩
abbrev s_law_spoilt_right : Stmt := top 23
theorem sc_law_spoilt_right : FnScope ["row", "thing", "bad", "kept", "whole"] ["row", "thing"] (defScope s_law_spoilt_right) := ⟨rfl, rfl, rfl, by decide +kernel, rfl, by decide +kernel, by decide +kernel⟩
/-! lists of such values -/
inductive RepOL (CN : Addr) (H : Hp) : List Ob → List V → Prop where
  | nil : RepOL CN H [] []
  | cons {t : Ob} {v : V} {ts : List Ob} {vs : List V} (h : RepO CN H t v) (r : RepOL CN H ts vs) : RepOL CN H (t :: ts) (v :: vs)
section
variable {CN : Addr} {H H' : Hp}
theorem RepOL.len {ts : List Ob} {vs : List V} (r : RepOL CN H ts vs) : vs.length = ts.length := by
  induction r with
  | nil => rfl
  | cons _ _ ih => rw [List.length_cons, List.length_cons, ih]
theorem RepOL.at {ts : List Ob} {vs : List V} (r : RepOL CN H ts vs) : ∀ (i : Nat) (x : V) (t : Ob), vs[i]? = some x → ts[i]? = some t → RepO CN H t x := by
  induction r with
  | nil => intro i x t e _; simp at e
  | cons h _ ih =>
    intro i x t e1 e2
    cases i with
    | zero => simp at e1 e2; subst e1; subst e2; exact h
    | succ i => exact ih i x t (by simpa using e1) (by simpa using e2)
theorem RepOL.tup {ts : List Ob} {vs : List V} {a : Addr} (r : RepOL CN H ts vs) (e : H a = some (.tup vs)) : RepO CN H (.tup ts) (.ref a) := .tup e r.len r.at
theorem RepOL.keep {ts : List Ob} {vs : List V} (k : Kept H H') (r : RepOL CN H ts vs) : RepOL CN H' ts vs := by
  induction r with
  | nil => exact .nil
  | cons h _ ih => exact .cons (h.keep k) ih
theorem RepOL.app {ts us : List Ob} {vs ws : List V} (r : RepOL CN H ts vs) (q : RepOL CN H us ws) : RepOL CN H (ts ++ us) (vs ++ ws) := by
  induction r with
  | nil => exact q
  | cons h _ ih => exact .cons h ih
theorem RepOL.takeN {ts : List Ob} {vs : List V} (r : RepOL CN H ts vs) : ∀ k : Nat, RepOL CN H (ts.take k) (vs.take k) := by
  induction r with
  | nil => intro k; rw [List.take_nil, List.take_nil]; exact .nil
  | cons h _ ih =>
    intro k
    cases k with
    | zero => exact .nil
    | succ k => exact .cons h (ih k)
theorem RepOL.dropN {ts : List Ob} {vs : List V} (r : RepOL CN H ts vs) : ∀ k : Nat, RepOL CN H (ts.drop k) (vs.drop k) := by
  induction r with
  | nil => intro k; rw [List.drop_nil, List.drop_nil]; exact .nil
  | cons h t ih =>
    intro k
    cases k with
    | zero => exact .cons h t
    | succ k => exact ih k
theorem RepL.toO {ts : List Th} {vs : List V} (r : RepL H ts vs) : RepOL CN H (ofL ts) vs := by
  induction r with
  | nil => exact .nil
  | cons h _ ih => exact .cons h.toO ih
end
theorem cutV_take (vs : List V) (k : Nat) (h : k ≤ vs.length) : cutV vs none (some (k : Int)) = vs.take k := by
  unfold cutV
  rw [HT.sIx_none, HT.sIx_nat, List.drop_zero, Nat.min_eq_left h]
  rfl
theorem cutV_drop (vs : List V) (k : Nat) (h : k ≤ vs.length) : cutV vs (some (k : Int)) none = vs.drop k := by
  unfold cutV
  rw [HT.sIx_none, HT.sIx_nat, Nat.min_eq_left h]
  exact List.take_of_length_le (by rw [List.length_drop]; omega)
/-- a thing put between others -/
theorem mid_ok {us : List Ob} {t : Ob} {k n : Nat} (h : ∀ u ∈ us, OkO u ∧ deepO u ≤ n) (l : us.length ≤ 890) (ht : OkO t) (d : deepO t ≤ n) : OkO (.tup (us.take k ++ [t] ++ us.drop k)) ∧ deepO (.tup (us.take k ++ [t] ++ us.drop k)) ≤ n + 1 := by
  have m : ∀ u ∈ us.take k ++ [t] ++ us.drop k, OkO u ∧ deepO u ≤ n := fun u hu => by
    rcases List.mem_append.mp hu with hu | hu
    · rcases List.mem_append.mp hu with hu | hu
      · exact h u (List.mem_of_mem_take hu)
      · rw [List.mem_singleton.mp hu]; exact ⟨ht, d⟩
    · exact h u (List.mem_of_mem_drop hu)
  refine ⟨⟨?_, OkOL.of fun u hu => (m u hu).1⟩, Nat.succ_le_succ (deepOL_le fun u hu => (m u hu).2)⟩
  rw [List.length_append, List.length_append, List.length_take, List.length_drop, List.length_singleton]; omega
/-- a value and what was kept of it -/
inductive KeptV (CN : Addr) (H : Hp) (row : Addr) : V → V → Prop where
  | scal (v : V) (h : scal v v = true) : KeptV CN H row v v
  | tup {t : Th} {v : V} (r : Rep H t v) (d : dep t ≤ 50) : KeptV CN H row v v
  | lst {a b : Addr} {xs : List V} {ts : List Th} (e : H a = some (.lst xs)) (e' : H b = some (.lst xs)) (n : a ≠ row) (n' : b ≠ row) (r : RepL H ts xs) (d : ∀ t ∈ ts, dep t ≤ 50) : KeptV CN H row (.ref a) (.ref b)
  | dic {a : Addr} (e : H a = some (.dK [])) : KeptV CN H row (.ref a) (.ref a)
  | exc {a : Addr} (e : H a = some (exO a CN none true)) : KeptV CN H row (.ref a) (.ref a)
theorem KeptV.keep {CN row : Addr} {H H' : Hp} {x y : V} (k : KeptV CN H row x y) (f : Frm [row] H H') (R : RowOk H row) : KeptV CN H' row x y := by
  cases k with
  | scal _ h => exact .scal _ h
  | tup r d => exact .tup (r.keep (f.tupsR R)) d
  | lst e e' n n' r d => exact .lst (f _ _ (not1 n) e) (f _ _ (not1 n') e') n n' (r.keep (f.tupsR R)) d
  | dic e => exact .dic (f _ _ (R.not (by intro xs z; cases z) e) e)
  | exc e => exact .exc (f _ _ (R.not (by intro xs z; cases z) e) e)
section
variable {X : Cx} {CN : Addr}
theorem op_eqK {k : Nat} (hr : Room k X.A) (nt : NTk X.K CN) : OpR X (compareOp .Eq) (fun x y H Q => (∃ row, KeptV CN H row x y) ∧ Q (.bl true) H) := by
  intro pins s σ H x y v w Q I rx ry h
  obtain ⟨⟨row, kv⟩, q⟩ := h
  cases kv with
  | scal v hs => exact op_eq pins s σ H _ _ _ _ Q I rx ry ⟨hs, by rw [decide_eq_true rfl]; exact q⟩
  | tup r d => exact op_eqTh hr pins s σ H _ _ _ _ Q I rx ry ⟨_, _, r, r, d, by rw [eqT_refl]; exact q⟩
  | @lst a b xs ts e e' n n' r d =>
    have : eqL ts ts = true := (eqL_iff ts ts).mpr rfl
    exact op_eqLs hr pins s σ H _ _ _ _ Q I rx ry ⟨_, _, _, _, ts, ts, rfl, rfl, SqL.of e, SqL.of e', r, r, d, by rw [this]; exact q⟩
  | dic e => exact op_eqD0 hr pins s σ H _ _ _ _ Q I rx ry ⟨_, rfl, rfl, e, q⟩
  | exc e => exact op_eqX hr pins s σ H _ _ _ _ Q I rx ry ⟨_, _, rfl, rfl, e, nt.kd, nt.he, q⟩
end
def spWrap (CN : Addr) : Sp := fun vs H Q _ => ∃ (row : Addr) (t : Ob) (v : V) (m : Nat), vs = [.ref row, v, .int (m : Int)] ∧ RowOk H row ∧ m ≤ 6 ∧ RepO CN H t v ∧ OkO t ∧
  ∀ (t' : Ob) (v' : V) (H' : Hp), Frm [row] H H' → RowOk H' row → RepO CN H' t' v' → OkO t' → deepO t' ≤ deepO t + m → Q v' H'
def spPut (CN : Addr) (n : Nat) : Sp := fun vs H Q _ => ∃ (row : Addr) (t : Th) (v : V) (tb : Ob) (vb : V), vs = [.ref row, v, vb] ∧ RowOk H row ∧ Rep H t v ∧ Wf t ∧ dep t < n ∧ BadV CN H row tb vb ∧ OkO tb ∧ deepO tb ≤ 1 ∧
  ∀ (t' : Ob) (v' : V) (H' : Hp), Frm [row] H H' → RowOk H' row → RepO CN H' t' v' → OkO t' → deepO t' ≤ dep t + 2 → Q v' H'
def spSpoilt (CN : Addr) : Sp := fun vs H Q _ => ∃ (row : Addr) (t : Th) (v : V), vs = [.ref row, v] ∧ RowOk H row ∧ Rep H t v ∧ Wf t ∧ dep t ≤ 5 ∧ ∀ H', Frm [row] H H' → RowOk H' row → Q (.bl true) H'
section
variable {P : Program} {w : World} {K : PySem.W.Frag} {mg : Str → Option Value} {base : Heap} {CN : Addr}
theorem ok_wrap (D : Dfn K mg "_law_wrapped" s_law_wrapped ["row", "thing", "many"]) (F_law_take : Fn P w K mg base "_law_take" 1 ["row", "many"] spTake) (F_law_thing : Fn P w K mg base "_law_thing" 8 ["row", "deep", "left"] (spThing 6)) (m_range : mg "range" = none) (m_len : mg "len" = none) (m_tuple : mg "tuple" = none) : Fn P w K mg base "_law_wrapped" 10 ["row", "thing", "many"] (spWrap CN) := by
  refine D.ok (k := 9) sc_law_wrapped (fun vs H Q E h => ?_) (fun f cdv A outer s H vs Q E hr h => ?_)
  · obtain ⟨row, t, v, m, rfl, _⟩ := h; rfl
  obtain ⟨row, t, v, m, rfl, R0, hm, rv, ok, q⟩ := h
  refine ⟨_, (pss_cons (ps_for PassesOwn.never rfl (pi_range1 rfl m_range (pa_cons (pv 2) pa_nil)) (pg_name (i := 3) sc_law_wrapped.nd rfl (Or.inl rfl))
  (pss_cons (ps_lcomp (i := 4) (CompScope.one (y := "row") (j := 0) (c := s.heap.objs.size + 1) (by rfl) (by rfl) (by decide +kernel) (by decide +kernel) (by rfl) (by decide +kernel) (by rfl) (by decide +kernel) (by rfl) (by first | exact Or.inl rfl | exact Or.inr rfl) (by first | exact Or.inl rfl | exact Or.inr rfl)) rfl (pi_range1 rfl m_range (pa_cons (pe_fn F_law_take hr (by omega) (by rfl) (pa_cons (pv 0) (pa_cons pe_int pa_nil))) pa_nil)) (fun _ _ _ => pts_nil) (fun _ _ _ => (pe_fn F_law_thing hr (by omega) (by rfl) (pa_cons (pv 1) (pa_cons pe_int (pa_cons (pe_lst (pa_cons pe_int pa_nil)) pa_nil))))) sc_law_wrapped.nd rfl (Or.inl rfl) (by rfl))
 (pss_cons (ps_set (i := 5) sc_law_wrapped.nd rfl (Or.inl rfl) (pe_fn F_law_take hr (by omega) (by rfl) (pa_cons (pv 0) (pa_cons (pe_op op_add (pe_callB (call_len_seq) (by rfl) m_len (by rfl) (pa_cons (pv 4) pa_nil)) pe_int) pa_nil))))
 (pss_one (ps_set (i := 1) sc_law_wrapped.nd rfl (Or.inl rfl) (pe_callTy call_tuple_of (by rfl) m_tuple (by rfl) (pa_cons (pe_op op_cat (pe_op op_cat (pe_slice sl_list (pv 4) po_none (po_some (pv 5))) (pe_lst (pa_cons (pv 1) pa_nil))) (pe_slice sl_list (pv 4) (po_some (pv 5)) po_none)) pa_nil)))))))
 (pss_one (ps_ret (pv 1)))), ?_⟩
  refine ⟨_, rfl, _, rfl, by omega, by omega, ?_⟩
  refine for_range (n := m) (fun i σ H' => ∃ (t' : Ob) (v' : V) (kk kb ka : Option V), σ = [some (.ref row), some v', some (.int (m : Int)), kk, kb, ka] ∧ Frm [row] H H' ∧ RowOk H' row ∧ RepO CN H' t' v' ∧ OkO t' ∧ deepO t' ≤ deepO t + i) ⟨t, v, _, _, _, rfl, Frm.refl, R0, rv, ok, Nat.le_refl _⟩ ?_ ?_
  · rintro i σ H1 hi ⟨t', v', kk, kb, ka, rfl, F1, R1, rv', ok', dt'⟩
    refine ⟨_, rfl, row, _, rfl, R1, (show (0 : Int) < 5 by decide), (by decide +kernel), fun n H2 n0 n5 f2 R2 => ?_⟩
    refine ⟨_, rfl, by omega, by omega, fun pz hpz => ?_⟩
    obtain ⟨f3, R3, e3, n3⟩ := grow (o := .lst []) hpz R2
    refine comp_it (J := Itr 0 n.toNat) (n := n.toNat) (fun j acc H' => ∃ us : List Th, RepL H' us acc ∧ us.length = j ∧ (∀ u ∈ us, Wf u ∧ dep u ≤ 0) ∧ Frm [row] H2 H' ∧ RowOk H' row ∧ H' pz = some (.lst acc)) ⟨[], .nil, rfl, (fun u h => nomatch h), f3, R3, upd_same⟩ (fun j acc H' hj _ => hj) (fun acc H' _ => Nat.le_refl _) ?_ ?_
    · rintro j acc H' y H'' hj ⟨us, ru, lu, hu, fj, Rj, ez⟩ ⟨z1, z2⟩
      subst z1
      refine tt1 ⟨_, rfl, szl (show 1 ≤ 1000 by decide), fun left hleft => ?_⟩
      have nl := Rj.neNew hleft
      have zl : left ≠ pz := (ne_of_none ez hleft).symm
      have f5 : Frm [row] H'' (upd H'' left (.lst [.int 1])) := Frm.new hleft
      have R5 := Rj.new (o := .lst [.int 1]) hleft
      have e5 : upd H'' left (.lst [.int 1]) left = some (.lst [.int 1]) := upd_same
      generalize upd H'' left (.lst [.int 1]) = H5 at f5 R5 e5
      refine ⟨row, left, 0, 1, rfl, R5, e5, by decide, by decide, by decide, by decide, fun u vu b' H6 wf du _ _ f6 R6 _ ru6 => ?_⟩
      have f56 : ∀ b o, b ≠ row → H'' b = some o → H6 b = some o := fun b o nb e => f6 b o (by
        intro z
        rcases List.mem_cons.mp z with z | z
        · exact nb z
        · rw [List.mem_singleton.mp z] at e; rw [hleft] at e; cases e) (f5 b o (not1 nb) e)
      have n3' : pz ≠ row := n3
      have e6 := f56 _ _ n3' ez
      have F6 : Frm [row] H'' H6 := fun b o nb e => f56 b o (fun z => nb (List.mem_singleton.mpr z)) e
      have la := ru.len
      have tk6 : Tups H'' H6 := F6.tupsR Rj
      have tk7 : Tups H6 (upd H6 pz (.lst (acc ++ [vu]))) := Tups.upd fun xs z => by rw [e6] at z; cases z
      have hpz2 : H2 pz = none := hpz
      refine ⟨e6, Nat.lt_of_lt_of_le (show acc.length < 1000 by omega) (szl (Nat.le_refl _)), nxt hj ⟨us ++ [u], RepL.snoc (ru6.keep tk7) ((ru.keep tk6).keep tk7), by rw [List.length_append, lu]; rfl, fun x hx => ?_, (fj.trans F6).put hpz2, R6.upd n3'.symm, upd_same⟩⟩
      rcases List.mem_append.mp hx with hx | hx
      · exact hu x hx
      · rw [List.mem_singleton.mp hx]; exact ⟨wf, by omega⟩
    · rintro acc H3 ⟨us, ru, lu, hu, fj, R3, ez⟩
      have la := ru.len
      have za : acc.length ≤ 4 := by omega
      refine ⟨_, rfl, _, rfl, pz, acc, rfl, .inl (SqL.of ez), _, _, rfl, rfl, row, _, rfl, R3, by omega, by omega, fun at_ H4 a0 a1 f4 R4 => ?_⟩
      have e4 := f4.at ez (not1 n3)
      have ea : at_ = ((at_.toNat : Nat) : Int) := by omega
      have hk : at_.toNat ≤ acc.length := by omega
      have c1 : cutV acc none (some at_) = acc.take at_.toNat := by rw [ea]; exact cutV_take acc at_.toNat hk
      have c2 : cutV acc (some at_) none = acc.drop at_.toNat := by rw [ea]; exact cutV_drop acc at_.toNat hk
      have F4 := ((F1.trans f2).trans fj).trans f4
      have k14 : Kept H1 H4 := ((f2.trans fj).trans f4).kept R1 R4
      have ru4 := ru.keep (f4.tupsR R3)
      have rv4 := rv'.keep k14
      refine ⟨_, rfl, _, rfl, _, rfl, pz, acc, rfl, SqL.of e4, fun p1 hp1 => ?_⟩
      rw [c1]
      obtain ⟨g1, Q1, w1, n1⟩ := grow (o := .lst (acc.take at_.toNat)) hp1 R4
      have ez1 := g1.at e4 (not1 n3)
      generalize upd H4 p1 (.lst (acc.take at_.toNat)) = H5 at g1 Q1 w1 ez1
      refine ⟨_, rfl, szl (show 1 ≤ 1000 by decide), fun p2 hp2 => ?_⟩
      obtain ⟨g2, Q2, w2, n2⟩ := grow (o := .lst [v']) hp2 Q1
      have ez2 := g2.at ez1 (not1 n3)
      have w12 := g2.at w1 (not1 n1)
      generalize upd H5 p2 (.lst [v']) = H6 at g2 Q2 w2 ez2 w12
      refine ⟨p1, p2, _, _, rfl, rfl, w12, w2, szl (by rw [List.length_take, List.length_singleton]; omega), fun p3 hp3 => ?_⟩
      obtain ⟨g3, Q3, w3, n3b⟩ := grow (o := .lst (acc.take at_.toNat ++ [v'])) hp3 Q2
      have ez3 := g3.at ez2 (not1 n3)
      generalize upd H6 p3 (.lst (acc.take at_.toNat ++ [v'])) = H7 at g3 Q3 w3 ez3
      refine ⟨_, rfl, _, rfl, _, rfl, pz, acc, rfl, SqL.of ez3, fun p4 hp4 => ?_⟩
      rw [c2]
      obtain ⟨g4, Q4, w4, n4⟩ := grow (o := .lst (acc.drop at_.toNat)) hp4 Q3
      have w34 := g4.at w3 (not1 n3b)
      generalize upd H7 p4 (.lst (acc.drop at_.toNat)) = H8 at g4 Q4 w4 w34
      refine ⟨p3, p4, _, _, rfl, rfl, w34, w4, szl (by rw [List.length_append, List.length_take, List.length_drop, List.length_singleton]; omega), fun p5 hp5 => ?_⟩
      obtain ⟨g5, Q5, w5, n5'⟩ := grow (o := .lst (acc.take at_.toNat ++ [v'] ++ acc.drop at_.toNat)) hp5 Q4
      generalize upd H8 p5 (.lst (acc.take at_.toNat ++ [v'] ++ acc.drop at_.toNat)) = H9 at g5 Q5 w5
      refine ⟨p5, _, rfl, .inl ⟨SqL.of w5, fun p6 hp6 => ?_⟩⟩
      obtain ⟨g6, Q6, w6, n6⟩ := grow (o := .tup (acc.take at_.toNat ++ [v'] ++ acc.drop at_.toNat)) hp6 Q5
      have G : Frm [row] H4 (upd H9 p6 (.tup (acc.take at_.toNat ++ [v'] ++ acc.drop at_.toNat))) := ((((g1.trans g2).trans g3).trans g4).trans g5).trans g6
      have kk4 := G.kept R4 Q6
      have ruO : RepOL CN _ (ofL us) acc := RepOL.keep kk4 (RepL.toO (CN := CN) ru4)
      have rvO := rv4.keep kk4
      have rl := ((ruO.takeN at_.toNat).app (.cons rvO .nil)).app (ruO.dropN at_.toNat)
      have md := mid_ok (us := ofL us) (t := t') (k := at_.toNat) (n := deepO t + i) (fun u hu' => by
        obtain ⟨j, hj⟩ := List.getElem?_of_mem hu'
        rw [ofL_get] at hj
        obtain ⟨x, hx, rfl⟩ := Option.map_eq_some_iff.mp hj
        obtain ⟨wf, d0⟩ := hu x (List.mem_of_getElem? hx)
        exact ⟨ofT_ok x wf, by rw [ofT_deep]; omega⟩) (by rw [ofL_len]; omega) ok' dt'
      exact ⟨_, _, _, _, _, rfl, F4.trans G, Q6, rl.tup w6, md.1, md.2⟩
  · rintro σ H' ⟨t', v', kk, kb, ka, rfl, F1, R1, rv', ok', dt'⟩
    exact ⟨_, rfl, q t' v' H' F1 R1 rv' ok' dt'⟩
theorem ok_put (D : Dfn K mg "_law_put_in" s_law_put_in ["row", "thing", "bad"]) (F_law_take : Fn P w K mg base "_law_take" 1 ["row", "many"] spTake) (m_isinstance : mg "isinstance" = none) (m_len : mg "len" = none) (m_tuple : mg "tuple" = none) : ∀ n : Nat, Fn P w K mg base "_law_put_in" (n + 2) ["row", "thing", "bad"] (spPut CN n)
  | 0 => D.never fun vs H Q E h => by
      obtain ⟨row, t, v, tb, vb, _, _, _, _, h1, _⟩ := h
      omega
  | n + 1 => by
    have F_law_put_in := ok_put D F_law_take m_isinstance m_len m_tuple n
    refine D.ok (k := n + 2) sc_law_put_in (fun vs H Q E h => ?_) (fun f cdv A outer s H vs Q E hr h => ?_)
    · obtain ⟨row, t, v, tb, vb, rfl, _⟩ := h; rfl
    obtain ⟨row, t, v, tb, vb, rfl, R0, rv, wf, hd, bv, okb, db, q⟩ := h
    refine ⟨_, (pss_cons (ps_if (PW.pt (pw_or (pt_not (pt_val (pe_callB (call_isinst) (by rfl) m_isinstance (by rfl) (pa_cons (pv 1) (pa_cons (pe_bltn (v := .ty "tuple") (by rfl) m_tuple (by rfl) rfl) pa_nil))))) (pw_or1 (pt_cmpR op_eq (pe_fn F_law_take hr (by omega) (by rfl) (pa_cons (pv 0) (pa_cons pe_int pa_nil))) pe_int (nomark _)))))
  (pss_one (ps_ret (pv 2)))
  pss_nil)
 (pss_cons (ps_set (i := 3) sc_law_put_in.nd rfl (Or.inl rfl) (pe_fn F_law_take hr (by omega) (by rfl) (pa_cons (pv 0) (pa_cons (pe_op op_add (pe_callB (call_len_seq) (by rfl) m_len (by rfl) (pa_cons (pv 1) pa_nil)) pe_int) pa_nil))))
 (pss_cons (ps_if (pt_cmpR op_eq (pv 3) (pe_callB (call_len_seq) (by rfl) m_len (by rfl) (pa_cons (pv 1) pa_nil)) (nomark _))
  (pss_one (ps_ret (pe_op op_catAny (pv 1) (pe_tup (pa_cons (pv 2) pa_nil)))))
  pss_nil)
 (pss_one (ps_ret (pe_op op_catAny (pe_op op_catAny (pe_slice sl_tup (pv 1) po_none (po_some (pv 3))) (pe_tup (pa_cons (pe_fn F_law_put_in hr (by omega) (by rfl) (pa_cons (pv 0) (pa_cons (pe_ix ix_tup (pv 1) (pv 3) (fun _ _ => rfl)) (pa_cons (pv 2) pa_nil)))) pa_nil))) (pe_slice sl_tup (pv 1) (po_some (pe_op op_add (pv 3) pe_int)) po_none))))))), ?_⟩
    have bad0 : ∀ H', Frm [row] H H' → RowOk H' row → Q vb H' := fun H' F R => q tb vb H' F R (bv.rep.keep (F.kept R0 R)) okb (by omega)
    cases rv with
    | non => exact ⟨_, rfl, _, _, _, _, rfl, .non, rfl, _, rfl, ifT rfl ⟨_, rfl, bad0 H Frm.refl R0⟩⟩
    | int i => exact ⟨_, rfl, _, _, _, _, rfl, .int i, rfl, _, rfl, ifT rfl ⟨_, rfl, bad0 H Frm.refl R0⟩⟩
    | str x => exact ⟨_, rfl, _, _, _, _, rfl, .str x, rfl, _, rfl, ifT rfl ⟨_, rfl, bad0 H Frm.refl R0⟩⟩
    | @tup a xs ts e l h =>
      refine ⟨_, rfl, _, _, _, _, rfl, .tup e, rfl, _, rfl, ifF rfl ?_⟩
      have l40 : ts.length ≤ 40 := wf.1
      have hd' : depL ts + 1 < n + 1 := hd
      have rl : RepL H ts xs := RepL.of l h
      refine ⟨_, rfl, row, _, rfl, R0, (show (0 : Int) < 4 by decide), (by decide +kernel), fun r H1 r0 r1 f1 R1 => ⟨rfl, _, rfl, ?_⟩⟩
      rw [dec_i]
      have tk1 := f1.tupsR R0
      have e1 := tk1 _ _ e
      have rl1 := rl.keep tk1
      have b1 := bv.keep f1 R0
      by_cases hr0 : r = 0
      · exact ifT (decide_eq_true hr0) ⟨_, rfl, bad0 H1 f1 R1⟩
      refine ifF (decide_eq_false hr0) ?_
      refine ⟨_, rfl, _, rfl, a, xs, rfl, .inr (SqT.of e1), _, _, rfl, rfl, row, _, rfl, R1, by omega, by omega, fun at_ H2 a0 a1 f2 R2 => ?_⟩
      have tk2 := f2.tupsR R1
      have e2 := tk2 _ _ e1
      have rl2 := rl1.keep tk2
      have b2 := b1.keep f2 R1
      have F2 := f1.trans f2
      have rO : ∀ H', Frm [row] H2 H' → RowOk H' row → RepOL CN H' (ofL ts) xs := fun H' F R => RepOL.keep (F.kept R2 R) (RepL.toO (CN := CN) rl2)
      have okT : ∀ u ∈ ofL ts, OkO u ∧ deepO u ≤ dep (.tup ts) + 1 := fun u hu => by
        obtain ⟨j, hj⟩ := List.getElem?_of_mem hu
        rw [ofL_get] at hj
        obtain ⟨x, hx, rfl⟩ := Option.map_eq_some_iff.mp hj
        have := depL_get hx
        refine ⟨ofT_ok x (wf.2.get hx), ?_⟩
        rw [ofT_deep]
        show dep x ≤ depL ts + 1 + 1
        omega
      refine ⟨_, rfl, _, rfl, a, xs, rfl, .inr (SqT.of e2), rfl, _, rfl, ?_⟩
      rw [dec_i]
      by_cases hat : at_ = (xs.length : Int)
      · refine ifT (decide_eq_true hat) ?_
        refine ⟨_, rfl, _, rfl, szl (show 1 ≤ 1000 by decide), fun p hp => ?_⟩
        obtain ⟨g1, Q1, w1, n1⟩ := grow (o := .tup [vb]) hp R2
        have e3 := g1.at e2 (R2.not (by intro z w; cases w) e2)
        generalize upd H2 p (.tup [vb]) = H3 at g1 Q1 w1 e3
        refine ⟨a, p, _, _, rfl, rfl, e3, w1, szl (by rw [List.length_singleton]; omega), fun r3 H4 s4 e4 => ?_⟩
        have G : Frm [row] H2 H4 := g1.trans (Frm.of s4)
        have R4 := Q1.keep (Frm.of (ws := []) s4) (by simp)
        have rr := (rO H4 G R4).app (.cons (b2.rep.keep (G.kept R2 R4)) .nil)
        refine q _ _ H4 (F2.trans G) R4 (rr.tup e4) ⟨?_, OkOL.of fun u hu => ?_⟩ (Nat.succ_le_succ (deepOL_le fun u hu => ?_))
        · rw [List.length_append, ofL_len, List.length_singleton]; omega
        · rcases List.mem_append.mp hu with hu | hu
          · exact (okT u hu).1
          · rw [List.mem_singleton.mp hu]; exact okb
        · rcases List.mem_append.mp hu with hu | hu
          · exact (okT u hu).2
          · rw [List.mem_singleton.mp hu]; show deepO tb ≤ depL ts + 1 + 1; omega
      · refine ifF (decide_eq_false hat) ?_
        have ea : at_ = ((at_.toNat : Nat) : Int) := by omega
        have hk : at_.toNat < xs.length := by omega
        have hkt : at_.toNat < ts.length := by omega
        have c1 : cutV xs none (some at_) = xs.take at_.toNat := by rw [ea]; exact cutV_take xs at_.toNat (by omega)
        have c2 : cutV xs (some (at_ + 1)) none = xs.drop (at_.toNat + 1) := by
          have : at_ + 1 = ((at_.toNat + 1 : Nat) : Int) := by omega
          rw [this]; exact cutV_drop xs (at_.toNat + 1) (by omega)
        refine ⟨_, rfl, _, rfl, _, rfl, a, xs, rfl, SqT.of e2, fun z => ?_, fun p1 hp1 => ?_⟩
        · have := z.2
          rw [ea, HT.sIx_nat] at this
          omega
        rw [c1]
        obtain ⟨g1, Q1, w1, n1⟩ := grow (o := .tup (xs.take at_.toNat)) hp1 R2
        generalize upd H2 p1 (.tup (xs.take at_.toNat)) = H3 at g1 Q1 w1
        have tk3 := g1.tupsR R2
        have e3 := tk3 _ _ e2
        have hx : xs[at_.toNat]? = some xs[at_.toNat] := List.getElem?_eq_getElem hk
        have ht : ts[at_.toNat]? = some ts[at_.toNat] := List.getElem?_eq_getElem hkt
        have hdt := depL_get ht
        have ax : atI xs at_ = some xs[at_.toNat] := by
          have := atI_nat hx
          rw [← ea] at this; exact this
        refine ⟨_, rfl, _, rfl, _, rfl, a, xs, _, _, rfl, rfl, SqT.of e3, ax, _, rfl, row, ts[at_.toNat], _, tb, vb, rfl, Q1, (rl2.keep tk3).at _ _ _ hx ht, wf.2.get ht, by omega, b2.keep g1 R2, okb, db, fun t' v' H4 F4 R4 rv4 ok4 d4 => ?_⟩
        have tk4 := F4.tupsR Q1
        have w4 := tk4 _ _ w1
        have e4 := tk4 _ _ e3
        refine ⟨szl (show 1 ≤ 1000 by decide), fun p2 hp2 => ?_⟩
        obtain ⟨g5, Q5, w5, n5⟩ := grow (o := .tup [v']) hp2 R4
        have tk5 := g5.tupsR R4
        have w45 := tk5 _ _ w4
        have e5 := tk5 _ _ e4
        generalize upd H4 p2 (.tup [v']) = H5 at g5 Q5 w5 w45 e5
        refine ⟨p1, p2, _, _, rfl, rfl, w45, w5, szl (by rw [List.length_take, List.length_singleton]; omega), fun r6 H6 s6 e6 => ?_⟩
        have R6 := Q5.keep (Frm.of (ws := []) s6) (by simp)
        refine ⟨_, rfl, _, rfl, _, _, rfl, rfl, _, rfl, a, xs, rfl, SqT.of (s6 _ _ e5), fun z => ?_, fun p7 hp7 => ?_⟩
        · have := z.1
          have e : at_ + 1 = ((at_.toNat + 1 : Nat) : Int) := by omega
          rw [e, HT.sIx_nat] at this
          omega
        rw [c2]
        obtain ⟨g7, Q7, w7, n7⟩ := grow (o := .tup (xs.drop (at_.toNat + 1))) hp7 R6
        have w67 := (g7.tupsR R6) _ _ e6
        generalize upd H6 p7 (.tup (xs.drop (at_.toNat + 1))) = H7 at g7 Q7 w7 w67
        refine ⟨r6, p7, _, _, rfl, rfl, w67, w7, szl (by rw [List.length_append, List.length_take, List.length_singleton, List.length_drop]; omega), fun r8 H8 s8 e8 => ?_⟩
        have R8 := Q7.keep (Frm.of (ws := []) s8) (by simp)
        have G4 : Frm [row] H4 H8 := ((g5.trans (Frm.of s6)).trans g7).trans (Frm.of s8)
        have G : Frm [row] H2 H8 := (g1.trans F4).trans G4
        have r0' := rO H8 G R8
        have rr := ((r0'.takeN at_.toNat).app (.cons (rv4.keep (G4.kept R4 R8)) .nil)).app (r0'.dropN (at_.toNat + 1))
        have mem : ∀ u ∈ (ofL ts).take at_.toNat ++ [t'] ++ (ofL ts).drop (at_.toNat + 1), OkO u ∧ deepO u ≤ dep (.tup ts) + 1 := fun u hu => by
          rcases List.mem_append.mp hu with hu | hu
          · rcases List.mem_append.mp hu with hu | hu
            · exact okT u (List.mem_of_mem_take hu)
            · rw [List.mem_singleton.mp hu]; exact ⟨ok4, by show deepO t' ≤ depL ts + 1 + 1; omega⟩
          · exact okT u (List.mem_of_mem_drop hu)
        refine q _ _ H8 (F2.trans G) R8 (rr.tup e8) ⟨?_, OkOL.of fun u hu => (mem u hu).1⟩ (Nat.succ_le_succ (deepOL_le fun u hu => (mem u hu).2))
        rw [List.length_append, List.length_append, List.length_take, List.length_drop, List.length_singleton, ofL_len]; omega
end
end Pv
set_option Elab.async false
set_option linter.all false
set_option maxRecDepth 100000
set_option maxHeartbeats 4000000
namespace Pv
open PySem L2
abbrev slaw : Stmt := top 27
theorem sclaw : FnScope ["script", "way", "cell", "row", "thing"] ["script"] (defScope slaw) := ⟨rfl, rfl, rfl, by decide +kernel, rfl, by decide +kernel, by decide +kernel⟩
theorem cut3 {a b c r : TS} {D : Ends} {σ : L2.St} {H : Hp} (I : L2.St → Hp → Prop) (h1 : ∀ D' : Ends, (∀ σ' H', I σ' H' → D'.nx σ' H') → tSeq a (tSeq b c) D' σ H) (h2 : ∀ σ' H', I σ' H' → r D σ' H') : tSeq a (tSeq b (tSeq c r)) D σ H := h1 { D with nx := r D } h2
theorem BadV.self {CN row : Addr} {H : Hp} {t : Ob} {v : V} (b : BadV CN H row t v) (n : instO t .list = false) : KeptV CN H row v v := by
  cases b with
  | bl b => exact .scal _ rfl
  | int i => exact .scal _ rfl
  | str x => exact .scal _ rfl
  | tup r d => exact .tup r (Nat.le_trans d (by decide))
  | lst e n r d l => cases n
  | dic e => exact .dic e
  | exc e => exact .exc e
mutual
theorem fine_thing : ∀ t : Th, Wf t → fineO (ofT t) = true
  | .non, _ => rfl
  | .int i, h => by
    show absB i = true
    have h0 := h.1
    have h1 := h.2
    exact decide_eq_true (by show (if i < 0 then -i else i) ≤ (10 : Int) ^ 30; split <;> omega)
  | .str x, h => by
    show (decide (x.length < 61) && _) = true
    rw [decide_eq_true (Nat.lt_succ_of_le h.1), Bool.true_and, List.all_eq_true]
    intro c hc
    obtain ⟨h1, h2, h3⟩ := h.2 c hc
    rw [decide_eq_false (by omega), decide_eq_false (by omega)]; rfl
  | .tup ts, h => by
    show (decide ((ofL ts).length ≤ 40) && fineOL (ofL ts)) = true
    rw [ofL_len, decide_eq_true h.1, Bool.true_and]
    exact fine_things ts h.2
theorem fine_things : ∀ ts : List Th, WfL ts → fineOL (ofL ts) = true
  | [], _ => rfl
  | t :: r, h => by show (fineO (ofT t) && fineOL (ofL r)) = true; rw [fine_thing t h.1, fine_things r h.2]; rfl
end
/-- Nones and a value behind them -/
theorem nones_ok {CN : Addr} {H : Hp} {t : Ob} {v : V} {n : Nat} {a : Addr} (e : H a = some (.tup (List.replicate n .non ++ [v]))) (hn : n ≤ 100) (r : RepO CN H t v) (ok : OkO t) : ∃ u, RepO CN H u (.ref a) ∧ OkO u ∧ deepO u ≤ deepO t + 1 := by
  have r0 : ∀ n : Nat, RepOL CN H (List.replicate n .non) (List.replicate n .non) := fun n => by
    induction n with
    | zero => exact .nil
    | succ n ih => exact .cons .non ih
  have m : ∀ u ∈ List.replicate n Ob.non ++ [t], OkO u ∧ deepO u ≤ deepO t := fun u hu => by
    rcases List.mem_append.mp hu with hu | hu
    · rw [(List.mem_replicate.mp hu).2]; exact ⟨trivial, Nat.zero_le _⟩
    · rw [List.mem_singleton.mp hu]; exact ⟨ok, Nat.le_refl _⟩
  refine ⟨.tup (List.replicate n .non ++ [t]), ((r0 n).app (.cons r .nil)).tup e, ⟨?_, OkOL.of fun u hu => (m u hu).1⟩, Nat.succ_le_succ (deepOL_le fun u hu => (m u hu).2)⟩
  rw [List.length_append, List.length_replicate, List.length_singleton]; omega
section
variable {P : Program} {w : World} {K : PySem.W.Frag} {mg : Str → Option Value} {base : Heap} {CN : Addr}
theorem ok_spoilt (nt : NTk K CN) (D : Dfn K mg "_law_spoilt_right" s_law_spoilt_right ["row", "thing"]) (F_law_take : Fn P w K mg base "_law_take" 1 ["row", "many"] spTake) (F_law_bad : Fn P w K mg base "_law_bad" 3 ["row"] (spBad CN)) (F_law_put_in : Fn P w K mg base "_law_put_in" 8 ["row", "thing", "bad"] (spPut CN 6)) (F_law_wrapped : Fn P w K mg base "_law_wrapped" 10 ["row", "thing", "many"] (spWrap CN)) (F_law_right : Fn P w K mg base "_law_right" 17 ["thing"] (spRight CN)) (m_isinstance : mg "isinstance" = none) (m_list : mg "list" = none) : Fn P w K mg base "_law_spoilt_right" 18 ["row", "thing"] (spSpoilt CN) := by
  refine D.ok (k := 17) sc_law_spoilt_right (fun vs H Q E h => ?_) (fun f cdv A outer s H vs Q E hr h => ?_)
  · obtain ⟨row, t, v, rfl, _⟩ := h; rfl
  obtain ⟨row, t, v, rfl, R0, rv, wf, dt, q⟩ := h
  refine ⟨_, (pss_cons (ps_set (i := 2) sc_law_spoilt_right.nd rfl (Or.inl rfl) (pe_fn F_law_bad hr (by omega) (by rfl) (pa_cons (pv 0) pa_nil)))
 (pss_cons (ps_set (i := 3) sc_law_spoilt_right.nd rfl (Or.inl rfl) (pv 2))
 (pss_cons (ps_if (pt_val (pe_callB (call_isinstO nt) (by rfl) m_isinstance (by rfl) (pa_cons (pv 2) (pa_cons (pe_bltn (v := .ty "list") (by rfl) m_list (by rfl) rfl) pa_nil))))
  (pss_one (ps_set (i := 3) sc_law_spoilt_right.nd rfl (Or.inl rfl) (pe_callTy call_list_of (by rfl) m_list (by rfl) (pa_cons (pv 2) pa_nil))))
  pss_nil)
 (pss_cons (ps_set (i := 4) sc_law_spoilt_right.nd rfl (Or.inl rfl) (pe_fn F_law_put_in hr (by omega) (by rfl) (pa_cons (pv 0) (pa_cons (pv 1) (pa_cons (pv 2) pa_nil)))))
 (pss_cons (ps_if (PW.pt (pw_or (pt_not (pt_val (pe_fn F_law_right hr (by omega) (by rfl) (pa_cons (pe_fn F_law_wrapped hr (by omega) (by rfl) (pa_cons (pv 0) (pa_cons (pv 4) (pa_cons (pe_fn F_law_take hr (by omega) (by rfl) (pa_cons (pv 0) (pa_cons pe_int pa_nil))) pa_nil)))) pa_nil)))) (pw_or1 (pt_not (pt_val (pe_fn F_law_right hr (by omega) (by rfl) (pa_cons (pe_fn F_law_wrapped hr (by omega) (by rfl) (pa_cons (pv 0) (pa_cons (pv 2) (pa_cons pe_int pa_nil)))) pa_nil)))))))
  (pss_one (ps_ret pe_bl))
  pss_nil)
 (pss_one (ps_ret (pe_and (pe_fn F_law_right hr (by omega) (by rfl) (pa_cons (pe_op op_catAny (pe_op op_repT (pe_tup (pa_cons pe_non pa_nil)) (pe_op op_add pe_int (pe_fn F_law_take hr (by omega) (by rfl) (pa_cons (pv 0) (pa_cons pe_int pa_nil))))) (pe_tup (pa_cons (pv 2) pa_nil))) pa_nil)) (pe_one (pe_cmpR (op_eqK hr nt) (pv 2) (pv 3) (nomark _))))))))))), ?_⟩
  refine cut3 (fun σ' H' => ∃ (tb : Ob) (vb vk : V), σ' = [some (.ref row), some v, some vb, some vk, none] ∧ Frm [row] H H' ∧ RowOk H' row ∧ BadV CN H' row tb vb ∧ OkO tb ∧ deepO tb ≤ 1 ∧ KeptV CN H' row vb vk) (fun D hD => ?_) ?_
  · refine ⟨_, rfl, row, rfl, R0, fun tb vb H1 F1 R1 bv okb db => ?_⟩
    refine ⟨_, rfl, ?_⟩
    refine ⟨_, rfl, tb, vb, .list, rfl, bv.rep, _, rfl, ?_⟩
    cases z : instO tb .list with
    | false => exact ifF rfl (hD _ _ ⟨tb, vb, vb, rfl, F1, R1, bv, okb, db, bv.self z⟩)
    | true =>
      refine ifT rfl ?_
      cases bv with
      | bl b => cases z
      | int i => cases z
      | str x => cases z
      | tup r d => cases z
      | dic e => cases z
      | exc e => cases z
      | @lst a xs ts e n r d l =>
        refine ⟨_, rfl, a, xs, rfl, .inl (SqL.of e), fun b hb => ?_⟩
        obtain ⟨g, R2, e2, n2⟩ := grow (o := .lst xs) hb R1
        exact hD _ _ ⟨_, _, _, rfl, F1.trans g, R2, (BadV.lst e n r d l).keep g R1, okb, db, .lst (g _ _ (not1 n) e) e2 n n2 (r.keep (g.tupsR R1)) d⟩
  rintro σ H1 ⟨tb, vb, vk, rfl, F1, R1, bv, okb, db, kv⟩
  have rv1 := rv.keep (F1.tupsR R0)
  refine ⟨_, rfl, _, rfl, _, rfl, row, t, v, tb, vb, rfl, R1, rv1, wf, by omega, bv, okb, db, fun tw vw H2 F2 R2 rw2 okw dw => ?_⟩
  have bv2 := bv.keep F2 R1
  have kv2 := kv.keep F2 R1
  refine ⟨_, rfl, _, rfl, _, rfl, row, _, rfl, R2, (show (0 : Int) < 3 by decide), (by decide +kernel), fun m H3 m0 m1 F3 R3 => ?_⟩
  have bv3 := bv2.keep F3 R2
  have kv3 := kv2.keep F3 R2
  refine ⟨row, tw, vw, m.toNat, by rw [show ((m.toNat : Nat) : Int) = m by omega]; rfl, R3, by omega, rw2.keep (F3.kept R2 R3), okw, fun t4 v4 H4 F4 R4 r4 ok4 d4 => ?_⟩
  have bv4 := bv3.keep F4 R3
  have kv4 := kv3.keep F4 R3
  refine ⟨t4, v4, rfl, r4, ok4, by omega, fun H5 s5 => ⟨_, rfl, ifF rfl ?_⟩⟩
  have F5 : Frm [row] H4 H5 := Frm.of s5
  have R5 := R4.keep (Frm.of (ws := []) s5) (by simp)
  have bv5 := bv4.keep F5 R4
  have kv5 := kv4.keep F5 R4
  refine ⟨_, rfl, _, rfl, row, tb, vb, 1, rfl, R5, by decide, bv5.rep, okb, fun t6 v6 H6 F6 R6 r6 ok6 d6 => ?_⟩
  have bv6 := bv5.keep F6 R5
  have kv6 := kv5.keep F6 R5
  refine ⟨t6, v6, rfl, r6, ok6, by omega, fun H7 s7 => ⟨_, rfl, ifF rfl ?_⟩⟩
  have F7 : Frm [row] H6 H7 := Frm.of s7
  have R7 := R6.keep (Frm.of (ws := []) s7) (by simp)
  have bv7 := bv6.keep F7 R6
  have kv7 := kv6.keep F7 R6
  refine ⟨szl (show 1 ≤ 1000 by decide), fun p8 hp8 => ?_⟩
  obtain ⟨g8, R8, e8, n8⟩ := grow (o := .tup [.non]) hp8 R7
  have bv8 := bv7.keep g8 R7
  have kv8 := kv7.keep g8 R7
  generalize upd H7 p8 (.tup [.non]) = H8 at g8 R8 e8 bv8 kv8
  refine ⟨_, rfl, row, _, rfl, R8, (show (0 : Int) < 3 by decide), (by decide +kernel), fun r9 H9 r90 r91 F9 R9 => ?_⟩
  have bv9 := bv8.keep F9 R8
  have kv9 := kv8.keep F9 R8
  have e9 := F9.tupsR R8 _ _ e8
  refine ⟨_, _, rfl, rfl, p8, 38 + r9, .non, rfl, rfl, e9, by omega, by omega, fun p10 hp10 => ?_⟩
  obtain ⟨g10, R10, e10, n10⟩ := grow (o := .tup (List.replicate (38 + r9).toNat .non)) hp10 R9
  have bv10 := bv9.keep g10 R9
  have kv10 := kv9.keep g10 R9
  generalize upd H9 p10 (.tup (List.replicate (38 + r9).toNat .non)) = H10 at g10 R10 e10 bv10 kv10
  refine ⟨_, rfl, szl (show 1 ≤ 1000 by decide), fun p11 hp11 => ?_⟩
  obtain ⟨g11, R11, e11, n11⟩ := grow (o := .tup [vb]) hp11 R10
  have bv11 := bv10.keep g11 R10
  have kv11 := kv10.keep g11 R10
  have e10' := g11.tupsR R10 _ _ e10
  generalize upd H10 p11 (.tup [vb]) = H11 at g11 R11 e11 bv11 kv11 e10'
  refine ⟨p10, p11, _, _, rfl, rfl, e10', e11, szl (by rw [List.length_replicate, List.length_singleton]; omega), fun p12 H12 s12 e12 => ?_⟩
  have F12 : Frm [row] H11 H12 := Frm.of s12
  have R12 := R11.keep (Frm.of (ws := []) s12) (by simp)
  have bv12 := bv11.keep F12 R11
  have kv12 := kv11.keep F12 R11
  obtain ⟨u, ru, oku, du⟩ := nones_ok e12 (by omega) bv12.rep okb
  refine ⟨u, _, rfl, ru, oku, by omega, fun H13 s13 => ⟨_, rfl, ifT rfl ?_⟩⟩
  have F13 : Frm [row] H12 H13 := Frm.of s13
  have R13 := R12.keep (Frm.of (ws := []) s13) (by simp)
  refine ⟨_, rfl, _, rfl, ⟨row, kv12.keep F13 R12⟩, q H13 ?_ R13⟩
  exact (((((((((((F1.trans F2).trans F3).trans F4).trans F5).trans F6).trans F7).trans g8).trans F9).trans g10).trans g11).trans F12).trans F13
theorem cutV_map (ns : List Int) (lo hi : Option Int) : ∃ ms : List Int, cutV (ns.map V.int) lo hi = ms.map V.int ∧ ms.length ≤ ns.length := by
  refine ⟨(ns.drop (HT.sIx ns.length 0 lo)).take (HT.sIx ns.length ns.length hi - HT.sIx ns.length 0 lo), ?_, ?_⟩
  · unfold cutV
    rw [List.length_map, List.map_take, List.map_drop]
  · rw [List.length_take, List.length_drop]; omega
theorem SqL.keepS {K : PySem.W.Frag} {H H' : Hp} {a : Addr} {xs : List V} (h : SqL K H a xs) (s : Same H H') : SqL K H' a xs := by
  rcases h with h | h
  · rcases h with h | ⟨o, h⟩
    · exact .inl (.inl (s _ _ h))
    · exact .inl (.inr ⟨o, s _ _ h⟩)
  · exact .inr h
def spLaw (K : PySem.W.Frag) : Sp := fun vs H Q _ => ∃ (a : Addr) (ns : List Int), vs = [.ref a] ∧ SqL K H a (ns.map V.int) ∧ ns.length ≤ 63 ∧ ∀ H', Q (.bl true) H'
theorem within_thing {t : Th} (wf : Wf t) (d : dep t ≤ 5) : within (ofT t) 5 = true := by
  rw [within_eq _ _ (ofT_ok t wf), ofT_deep, decide_eq_true d, Bool.true_and]
  exact fine_thing t wf
theorem ok_law {f : Addr} {fd : FuncData} (F : Fun K "law" "law" slaw f fd) (F_law_cell_at : Fn P w K mg base "_law_cell_at" 1 ["script", "k"] (spCell K)) (F_law_stream : Fn P w K mg base "_law_stream" 1 ["cell", "way"] spStream) (F_law_take : Fn P w K mg base "_law_take" 1 ["row", "many"] spTake) (F_law_thing : Fn P w K mg base "_law_thing" 8 ["row", "deep", "left"] (spThing 6))
    (F_is_thing : Fn P w K mg base "is_thing" 15 ["thing"] (spIsO CN)) (F_law_wrapped : Fn P w K mg base "_law_wrapped" 10 ["row", "thing", "many"] (spWrap CN)) (F_law_right : Fn P w K mg base "_law_right" 17 ["thing"] (spRight CN)) (F_law_spoilt_right : Fn P w K mg base "_law_spoilt_right" 18 ["row", "thing"] (spSpoilt CN)) : FnOk P w K mg base CX0 65 f fd ["script"] (spLaw K) := by
  refine F.ok (k := 64) sclaw (fun vs H Q E h => ?_) (fun cdv A outer s H vs Q E hr h => ?_)
  · obtain ⟨a, ns, rfl, _⟩ := h; rfl
  obtain ⟨a, ns, rfl, hS, h63, q⟩ := h
  refine ⟨_, (pss_cons (ps_set (i := 1) sclaw.nd rfl (Or.inl rfl) (pe_op op_mod (pe_fn F_law_cell_at hr (by omega) (by rfl) (pa_cons (pv 0) (pa_cons pe_int pa_nil))) pe_int))
 (pss_cons (ps_for PassesOwn.never rfl (pi_list (pe_op op_cat (pe_lst (pa_cons pe_int pa_nil)) (pe_slice sl_list (pv 0) po_none (po_some pe_int)))) (pg_name (i := 2) sclaw.nd rfl (Or.inl rfl))
  (pss_cons (ps_set (i := 3) sclaw.nd rfl (Or.inl rfl) (pe_fn F_law_stream hr (by omega) (by rfl) (pa_cons (pe_op op_fdivL (pv 2) pe_int) (pa_cons (pv 1) pa_nil))))
 (pss_cons (ps_set (i := 4) sclaw.nd rfl (Or.inl rfl) (pe_fn F_law_thing hr (by omega) (by rfl) (pa_cons (pv 3) (pa_cons pe_int (pa_cons (pe_lst (pa_cons pe_int pa_nil)) pa_nil)))))
 (pss_cons (ps_if (pt_cmpR op_isnotB (pe_fn F_is_thing hr (by omega) (by rfl) (pa_cons (pv 4) pa_nil)) pe_bl (nomark _))
  (pss_one (ps_ret pe_bl))
  pss_nil)
 (pss_cons (ps_if (pt_not (pt_val (pe_fn F_law_right hr (by omega) (by rfl) (pa_cons (pe_fn F_law_wrapped hr (by omega) (by rfl) (pa_cons (pv 3) (pa_cons (pv 4) (pa_cons (pe_op op_add pe_int (pe_fn F_law_take hr (by omega) (by rfl) (pa_cons (pv 3) (pa_cons pe_int pa_nil)))) pa_nil)))) pa_nil))))
  (pss_one (ps_ret pe_bl))
  pss_nil)
 (pss_cons (ps_if (pt_not (pt_val (pe_fn F_law_spoilt_right hr (by omega) (by rfl) (pa_cons (pv 3) (pa_cons (pv 4) pa_nil)))))
  (pss_one (ps_ret pe_bl))
  pss_nil)
 (pss_one (ps_if (pt_not (pt_val (pe_fn F_law_right hr (by omega) (by rfl) (pa_cons (pe_op op_catAny (pe_op op_repT (pe_tup (pa_cons pe_non pa_nil)) (pe_op op_add pe_int (pe_fn F_law_take hr (by omega) (by rfl) (pa_cons (pv 3) (pa_cons pe_int pa_nil))))) (pe_tup (pa_cons (pv 4) pa_nil))) pa_nil))))
  (pss_one (ps_ret pe_bl))
  pss_nil))))))))
 (pss_one (ps_ret (pe_and (pe_cmpR op_isB (pe_fn F_is_thing hr (by omega) (by rfl) (pa_cons (pe_tup pa_nil) pa_nil)) pe_bl (nomark _)) (pe_and (pe_cmpR op_isB (pe_fn F_is_thing hr (by omega) (by rfl) (pa_cons pe_str pa_nil)) pe_bl (nomark _)) (pe_one (pe_cmpR op_isB (pe_fn F_is_thing hr (by omega) (by rfl) (pa_cons (pe_lst pa_nil) pa_nil)) pe_bl (nomark _))))))))), ?_⟩
  refine ⟨_, rfl, a, ns, 0, rfl, hS, Int.le_refl 0, fun c0 => ?_⟩
  refine ⟨_, _, rfl, rfl, (show (0 : Int) < 2 by decide), ?_⟩
  have w0 : c0 % 2 = 0 ∨ c0 % 2 = 1 := by omega
  refine ⟨szl (show 1 ≤ 1000 by decide), fun p1 hp1 => ?_⟩
  obtain ⟨ms, ems, hms⟩ := cutV_map ns none (some 63)
  refine ⟨_, rfl, _, rfl, a, _, rfl, SqL.keepS hS ((Frm.new (ws := []) hp1).same), fun p2 hp2 => ?_⟩
  rw [ems]
  have e1 : upd (upd H p1 (.lst [.int 0])) p2 (.lst (ms.map V.int)) p1 = some (.lst [.int 0]) := by rw [upd_ne (ne_of_none upd_same hp2)]; exact upd_same
  refine ⟨p1, p2, _, _, rfl, rfl, e1, upd_same, szl (show 1 + (ms.map V.int).length ≤ 1000 by rw [List.length_map]; omega), fun p3 hp3 => ?_⟩
  refine ⟨p3, rfl, ⟨_, SqL.of upd_same⟩, ?_⟩
  refine for_list (xs := [V.int 0] ++ ms.map V.int) (fun i σ H' => ∃ k2 k3 k4, σ = [some (.ref a), some (.int (c0 % 2)), k2, k3, k4] ∧ H' p3 = some (.lst ([V.int 0] ++ ms.map V.int))) ⟨_, _, _, rfl, upd_same⟩ ?_ ?_ ?_
  · rintro i σ H1 hi ⟨k2, k3, k4, rfl, e3⟩
    exact SqL.of e3
  · rintro i x σ H1 hx ⟨k2, k3, k4, rfl, e3⟩
    obtain ⟨cell, rfl⟩ : ∃ c : Int, x = .int c := by
      have e : [V.int 0] ++ ms.map V.int = (0 :: ms).map V.int := rfl
      rw [e, List.getElem?_map] at hx
      obtain ⟨c, _, rfl⟩ := Option.map_eq_some_iff.mp hx
      exact ⟨c, rfl⟩
    refine ⟨_, rfl, _, _, rfl, rfl, ⟨by decide, by decide +kernel⟩, _, rfl, _, _, rfl, w0, fun row H2 s2 R2 hrow => ?_⟩
    have e3r : p3 ≠ row := ne_of_none e3 hrow
    have e32 := s2 _ _ e3
    refine ⟨_, rfl, szl (show 1 ≤ 1000 by decide), fun left hleft => ?_⟩
    have nl := R2.neNew hleft
    have R3 := R2.new (o := .lst [.int 30]) hleft
    have w3 : upd H2 left (.lst [.int 30]) left = some (.lst [.int 30]) := upd_same
    have e33 : upd H2 left (.lst [.int 30]) p3 = some (.lst ([V.int 0] ++ ms.map V.int)) := by rw [upd_ne (ne_of_none e32 hleft)]; exact e32
    have n3l : p3 ≠ left := ne_of_none e32 hleft
    generalize upd H2 left (.lst [.int 30]) = H3 at R3 w3 e33
    refine ⟨row, left, 5, 30, rfl, R3, w3, by decide, by decide, by decide, by decide, fun t v b' H4 wf dt _ _ f4 R4 _ rv => ?_⟩
    have dt5 : dep t ≤ 5 := by omega
    have e34 := f4.at e33 (by simp [e3r, n3l])
    have okt := ofT_ok t wf
    have wt := within_thing wf dt5
    refine ⟨_, rfl, ofT t, v, rfl, rv.toO, okt, _, _, rfl, rfl, _, rfl, ?_⟩
    rw [wt]
    refine ifF rfl ?_
    refine ⟨_, rfl, _, rfl, _, rfl, row, _, rfl, R4, (show (0 : Int) < 6 by decide), (by decide +kernel), fun m H5 m0 m1 f5 R5 => ?_⟩
    have rv5 := rv.keep (f5.tupsR R4)
    have e35 := f5.at e34 (not1 e3r)
    refine ⟨_, _, rfl, rfl, row, ofT t, v, (1 + m).toNat, by rw [show (((1 + m).toNat : Nat) : Int) = 1 + m by omega]; rfl, R5, by omega, rv5.toO, okt, fun t6 v6 H6 f6 R6 r6 ok6 d6 => ?_⟩
    rw [ofT_deep] at d6
    have rv6 := rv5.keep (f6.tupsR R5)
    have e36 := f6.at e35 (not1 e3r)
    refine ⟨t6, v6, rfl, r6, ok6, by omega, fun H7 s7 => ⟨_, rfl, ifF rfl ?_⟩⟩
    have R7 := R6.keep (Frm.of (ws := []) s7) (by simp)
    have rv7 := rv6.keep (Same.tups s7)
    refine ⟨_, rfl, _, rfl, row, t, v, rfl, R7, rv7, wf, dt5, fun H8 f8 R8 => ⟨_, rfl, ifF rfl ?_⟩⟩
    have rv8 := rv7.keep (f8.tupsR R7)
    have e38 := f8.at (s7 _ _ e36) (not1 e3r)
    refine ⟨szl (show 1 ≤ 1000 by decide), fun p9 hp9 => ?_⟩
    obtain ⟨g9, R9, w9, n9⟩ := grow (o := .tup [.non]) hp9 R8
    have rv9 := rv8.keep (g9.tupsR R8)
    have e39 := g9.at e38 (not1 e3r)
    generalize upd H8 p9 (.tup [.non]) = H9 at g9 R9 w9 rv9 e39
    refine ⟨_, rfl, row, _, rfl, R9, (show (0 : Int) < 3 by decide), (by decide +kernel), fun r H10 r0 r1 f10 R10 => ?_⟩
    have rv10 := rv9.keep (f10.tupsR R9)
    have e310 := f10.at e39 (not1 e3r)
    have w10 := f10.tupsR R9 _ _ w9
    refine ⟨_, _, rfl, rfl, p9, 38 + r, .non, rfl, rfl, w10, by omega, by omega, fun p11 hp11 => ?_⟩
    obtain ⟨g11, R11, w11, n11⟩ := grow (o := .tup (List.replicate (38 + r).toNat .non)) hp11 R10
    have rv11 := rv10.keep (g11.tupsR R10)
    have e311 := g11.at e310 (not1 e3r)
    generalize upd H10 p11 (.tup (List.replicate (38 + r).toNat .non)) = H11 at g11 R11 w11 rv11 e311
    refine ⟨_, rfl, szl (show 1 ≤ 1000 by decide), fun p12 hp12 => ?_⟩
    obtain ⟨g12, R12, w12, n12⟩ := grow (o := .tup [v]) hp12 R11
    have rv12 := rv11.keep (g12.tupsR R11)
    have e312 := g12.at e311 (not1 e3r)
    have w112 := g12.tupsR R11 _ _ w11
    generalize upd H11 p12 (.tup [v]) = H12 at g12 R12 w12 rv12 e312 w112
    refine ⟨p11, p12, _, _, rfl, rfl, w112, w12, szl (by rw [List.length_replicate, List.length_singleton]; omega), fun p13 H13 s13 e13 => ?_⟩
    have rv13 := rv12.keep (Same.tups s13)
    obtain ⟨u, ru, oku, du⟩ := nones_ok e13 (by omega) (rv13.toO (CN := CN)) okt
    rw [ofT_deep] at du
    refine ⟨u, _, rfl, ru, oku, by omega, fun H14 s14 => ⟨_, rfl, ifF rfl ?_⟩⟩
    exact ⟨_, _, _, rfl, s14 _ _ (s13 _ _ e312)⟩
  · rintro σ H1 ⟨k2, k3, k4, rfl, e3⟩
    refine ⟨szl (show 0 ≤ 1000 by decide), fun p4 hp4 => ?_⟩
    refine ⟨.tup [], _, rfl, .tup upd_same rfl (fun i x t h => by simp at h), ⟨Nat.zero_le _, trivial⟩, _, _, rfl, rfl, _, rfl, ifT rfl ?_⟩
    refine ⟨.str "", _, rfl, .str _, ⟨by decide +kernel, by decide +kernel⟩, _, _, rfl, rfl, _, rfl, ifT (by decide +kernel) ?_⟩
    refine ⟨szl (show 0 ≤ 1000 by decide), fun p5 hp5 => ?_⟩
    exact ⟨.odd 0, _, rfl, .lst upd_same, trivial, _, _, rfl, rfl, q _⟩
end
end Pv
set_option Elab.async false
set_option linter.all false
set_option maxRecDepth 100000
set_option maxHeartbeats 4000000
namespace Pv
open PySem L2
/-- a def stands behind the top as the text says -/
theorem dfn_mk {K : PySem.W.Frag} {h : Heap} {mg : Str → Option Value} (x : Str) (st : Stmt) (ps : List Str) {f : Addr} {od an : Option Addr} {sl : Array (Option Value)} {oc kV dc pm cd ct : Value} (X : K.In h) (G : h.Ns mainGlobals mg)
    (a : PySem.W.nsIn K mainGlobals x = some (some (.ref f))) (l : K.lookup f = some ⟨oc, od, .func (PySem.W.fnOf x x (defArgs st) (defBody st) (defScope st) .none kV dc pm an cd ct), sl⟩) (c : PySem.W.codeIn K cd x = true) (k : PySem.W.keepIn K (.ref f) = true)
    (b : ∀ (kV doc pm : Value) (an : Option Addr) (cdv ct : Value) (us : List Value), us.length = ps.length → bindArgs (PySem.W.fnOf x x (defArgs st) (defBody st) (defScope st) .none kV doc pm an cdv ct) ⟨us, []⟩ = pure (ps.zip us)) : Dfn K mg x st ps :=
  ⟨_, _, fun_mk l c k, (fun_mk l c k).binds b, PySem.W.mg_of X G a⟩
theorem glob_mk {K : PySem.W.Frag} {h : Heap} {mg : Str → Option Value} {x : Str} {i : Int} {t : Tok} (X : K.In h) (G : h.Ns mainGlobals mg) (a : PySem.W.nsIn K mainGlobals x = some (some (.int i t))) : ∃ t, mg x = some (.int i t) := ⟨t, PySem.W.mg_of X G a⟩
theorem law_mk {l : PySem.W.OpenLaw} {w : World} {K : PySem.W.Frag} {h : Heap} {mg : Str → Option Value} {fa f : Addr} {od an : Option Addr} {sl : Array (Option Value)} {oc kV dc pm cd ct : Value} (X : K.In h) (G : h.Ns mainGlobals mg) (hfa : mg "law" = some (.ref fa))
    (a : PySem.W.nsIn K mainGlobals "law" = some (some (.ref f))) (lk : K.lookup f = some ⟨oc, od, .func (PySem.W.fnOf "law" "law" (defArgs slaw) (defBody slaw) (defScope slaw) .none kV dc pm an cd ct), sl⟩) (c : PySem.W.codeIn K cd "law" = true) (k : PySem.W.keepIn K (.ref f) = true)
    (ok : ∀ (base : Heap) (fd : FuncData), Fun K "law" "law" slaw f fd → FnOk l.prog w K mg base CX0 65 f fd ["script"] (spLaw K)) :
    ∃ fd : FuncData, (∀ (s : Shared) (v : Value), BindsTo s fd ⟨[v], []⟩ [("script", v)]) ∧ ∀ base : Heap, K.In base → base.Ns mainGlobals mg → FnOk l.prog w K mg base CX0 65 fa fd ["script"] (spLaw K) := by
  have e := hfa.symm.trans (PySem.W.mg_of X G a)
  cases e
  exact ⟨PySem.W.fnOf "law" "law" (defArgs slaw) (defBody slaw) (defScope slaw) .none kV dc pm an cd ct, fun s v => .of_eq rfl, fun base _ _ => ok base _ (fun_mk lk c k)⟩
theorem walk {l : PySem.W.OpenLaw} {q : Program} {loose : List Str} {XP : (Str → Option Value) → Heap → Prop} {YP : World → Heap → Prop} {d : DefRec} {K : Params → PySem.W.Frag} (hn : l.most = some 63) (hdf : d.params.defaults = [])
    (hY : ∀ (w : World) (h : Heap), YP w h → (K w.params).In h)
    (F : ∀ (w : World) (mg : Str → Option Value) (fa : Addr) (h : Heap), (K w.params).In h → h.Ns mainGlobals mg → mg d.name = some (.ref fa) →
      ∃ fd : FuncData, (∀ (s : Shared) (u : Value), BindsTo s fd ⟨[u], []⟩ [("script", u)]) ∧ ∀ base : Heap, (K w.params).In base → base.Ns mainGlobals mg → FnOk l.prog w (K w.params) mg base CX0 65 fa fd ["script"] (spLaw (K w.params))) :
    PySem.W.WalkO q loose XP YP l.row.toRowW d [] (fun f vs => PySem.call f vs) :=
  L2.walk_of (n := 63) (k := 65) (x := "script") (CX := fun _ => CX0) (sp := fun w => spLaw (K w.params)) hn (by decide) hdf ⟨rfl, by decide, by decide⟩ hY F (fun _ _ a ns hl _ hS => ⟨a, ns, rfl, hS, hl, fun _ => rfl⟩) fun _ _ _ _ _ z => z
end Pv
open PySem PySem.W PyProof.Rows
set_option maxRecDepth 100000 in
set_option maxHeartbeats 0 in
theorem PySem.Challenge.cw_papervault_k01_what_is_a_thing_holds : PySem.Challenge.rw_papervault_k01_what_is_a_thing.Holds := by
  w_on; o_law; k_head; (case hw => w_witness2)
  k_fill
  refine Pv.walk (l := PySem.Challenge.rw_papervault_k01_what_is_a_thing) rfl rfl (fun w h Y => PySem.W.kIn_of Y) ?F
  case F =>
    intro w mg fa h KX G hmg
    have D_is_whole : L2.Dfn (L2.KOf KX) mg "is_whole" Pv.sis_whole ["value"] := by
      dsimp only [L2.KOf]
      refine' Pv.dfn_mk "is_whole" Pv.sis_whole ["value"] KX G ?a ?l ?c ?k ?b
      (case a => k_is); (case l => k_is); (case c => k_is); (case k => k_is)
      (case b => exact fun _ _ _ _ _ _ us hl => match us, hl with | [_], _ => rfl)
    have D_is_thing : L2.Dfn (L2.KOf KX) mg "is_thing" Pv.sis_thing ["thing"] := by
      dsimp only [L2.KOf]
      refine' Pv.dfn_mk "is_thing" Pv.sis_thing ["thing"] KX G ?a ?l ?c ?k ?b
      (case a => k_is); (case l => k_is); (case c => k_is); (case k => k_is)
      (case b => exact fun _ _ _ _ _ _ us hl => match us, hl with | [_], _ => rfl)
    have D_is_thing_within : L2.Dfn (L2.KOf KX) mg "is_thing_within" Pv.sis_thing_within ["thing", "deep"] := by
      dsimp only [L2.KOf]
      refine' Pv.dfn_mk "is_thing_within" Pv.sis_thing_within ["thing", "deep"] KX G ?a ?l ?c ?k ?b
      (case a => k_is); (case l => k_is); (case c => k_is); (case k => k_is)
      (case b => exact fun _ _ _ _ _ _ us hl => match us, hl with | [_, _], _ => rfl)
    have D_is_tuple_within : L2.Dfn (L2.KOf KX) mg "is_tuple_within" Pv.sis_tuple_within ["parts", "deep"] := by
      dsimp only [L2.KOf]
      refine' Pv.dfn_mk "is_tuple_within" Pv.sis_tuple_within ["parts", "deep"] KX G ?a ?l ?c ?k ?b
      (case a => k_is); (case l => k_is); (case c => k_is); (case k => k_is)
      (case b => exact fun _ _ _ _ _ _ us hl => match us, hl with | [_, _], _ => rfl)
    have D_has_signs_of_things : L2.Dfn (L2.KOf KX) mg "has_signs_of_things" Pv.shas_signs_of_things ["text"] := by
      dsimp only [L2.KOf]
      refine' Pv.dfn_mk "has_signs_of_things" Pv.shas_signs_of_things ["text"] KX G ?a ?l ?c ?k ?b
      (case a => k_is); (case l => k_is); (case c => k_is); (case k => k_is)
      (case b => exact fun _ _ _ _ _ _ us hl => match us, hl with | [_], _ => rfl)
    have D__law_cell_at : L2.Dfn (L2.KOf KX) mg "_law_cell_at" Pv.s_law_cell_at ["script", "k"] := by
      dsimp only [L2.KOf]
      refine' Pv.dfn_mk "_law_cell_at" Pv.s_law_cell_at ["script", "k"] KX G ?a ?l ?c ?k ?b
      (case a => k_is); (case l => k_is); (case c => k_is); (case k => k_is)
      (case b => exact fun _ _ _ _ _ _ us hl => match us, hl with | [_, _], _ => rfl)
    have D__law_stream : L2.Dfn (L2.KOf KX) mg "_law_stream" Pv.s_law_stream ["cell", "way"] := by
      dsimp only [L2.KOf]
      refine' Pv.dfn_mk "_law_stream" Pv.s_law_stream ["cell", "way"] KX G ?a ?l ?c ?k ?b
      (case a => k_is); (case l => k_is); (case c => k_is); (case k => k_is)
      (case b => exact fun _ _ _ _ _ _ us hl => match us, hl with | [_, _], _ => rfl)
    have D__law_take : L2.Dfn (L2.KOf KX) mg "_law_take" Pv.s_law_take ["row", "many"] := by
      dsimp only [L2.KOf]
      refine' Pv.dfn_mk "_law_take" Pv.s_law_take ["row", "many"] KX G ?a ?l ?c ?k ?b
      (case a => k_is); (case l => k_is); (case c => k_is); (case k => k_is)
      (case b => exact fun _ _ _ _ _ _ us hl => match us, hl with | [_, _], _ => rfl)
    have D__law_number : L2.Dfn (L2.KOf KX) mg "_law_number" Pv.s_law_number ["row"] := by
      dsimp only [L2.KOf]
      refine' Pv.dfn_mk "_law_number" Pv.s_law_number ["row"] KX G ?a ?l ?c ?k ?b
      (case a => k_is); (case l => k_is); (case c => k_is); (case k => k_is)
      (case b => exact fun _ _ _ _ _ _ us hl => match us, hl with | [_], _ => rfl)
    have D__law_text : L2.Dfn (L2.KOf KX) mg "_law_text" Pv.s_law_text ["row"] := by
      dsimp only [L2.KOf]
      refine' Pv.dfn_mk "_law_text" Pv.s_law_text ["row"] KX G ?a ?l ?c ?k ?b
      (case a => k_is); (case l => k_is); (case c => k_is); (case k => k_is)
      (case b => exact fun _ _ _ _ _ _ us hl => match us, hl with | [_], _ => rfl)
    have D__law_thing : L2.Dfn (L2.KOf KX) mg "_law_thing" Pv.s_law_thing ["row", "deep", "left"] := by
      dsimp only [L2.KOf]
      refine' Pv.dfn_mk "_law_thing" Pv.s_law_thing ["row", "deep", "left"] KX G ?a ?l ?c ?k ?b
      (case a => k_is); (case l => k_is); (case c => k_is); (case k => k_is)
      (case b => exact fun _ _ _ _ _ _ us hl => match us, hl with | [_, _, _], _ => rfl)
    have D__law_bad : L2.Dfn (L2.KOf KX) mg "_law_bad" Pv.s_law_bad ["row"] := by
      dsimp only [L2.KOf]
      refine' Pv.dfn_mk "_law_bad" Pv.s_law_bad ["row"] KX G ?a ?l ?c ?k ?b
      (case a => k_is); (case l => k_is); (case c => k_is); (case k => k_is)
      (case b => exact fun _ _ _ _ _ _ us hl => match us, hl with | [_], _ => rfl)
    have D__law_wrapped : L2.Dfn (L2.KOf KX) mg "_law_wrapped" Pv.s_law_wrapped ["row", "thing", "many"] := by
      dsimp only [L2.KOf]
      refine' Pv.dfn_mk "_law_wrapped" Pv.s_law_wrapped ["row", "thing", "many"] KX G ?a ?l ?c ?k ?b
      (case a => k_is); (case l => k_is); (case c => k_is); (case k => k_is)
      (case b => exact fun _ _ _ _ _ _ us hl => match us, hl with | [_, _, _], _ => rfl)
    have D__law_put_in : L2.Dfn (L2.KOf KX) mg "_law_put_in" Pv.s_law_put_in ["row", "thing", "bad"] := by
      dsimp only [L2.KOf]
      refine' Pv.dfn_mk "_law_put_in" Pv.s_law_put_in ["row", "thing", "bad"] KX G ?a ?l ?c ?k ?b
      (case a => k_is); (case l => k_is); (case c => k_is); (case k => k_is)
      (case b => exact fun _ _ _ _ _ _ us hl => match us, hl with | [_, _, _], _ => rfl)
    have D__law_spoilt_right : L2.Dfn (L2.KOf KX) mg "_law_spoilt_right" Pv.s_law_spoilt_right ["row", "thing"] := by
      dsimp only [L2.KOf]
      refine' Pv.dfn_mk "_law_spoilt_right" Pv.s_law_spoilt_right ["row", "thing"] KX G ?a ?l ?c ?k ?b
      (case a => k_is); (case l => k_is); (case c => k_is); (case k => k_is)
      (case b => exact fun _ _ _ _ _ _ us hl => match us, hl with | [_, _], _ => rfl)
    have D__law_deep : L2.Dfn (L2.KOf KX) mg "_law_deep" Pv.s_law_deep ["thing"] := by
      dsimp only [L2.KOf]
      refine' Pv.dfn_mk "_law_deep" Pv.s_law_deep ["thing"] KX G ?a ?l ?c ?k ?b
      (case a => k_is); (case l => k_is); (case c => k_is); (case k => k_is)
      (case b => exact fun _ _ _ _ _ _ us hl => match us, hl with | [_], _ => rfl)
    have D__law_fine : L2.Dfn (L2.KOf KX) mg "_law_fine" Pv.s_law_fine ["thing"] := by
      dsimp only [L2.KOf]
      refine' Pv.dfn_mk "_law_fine" Pv.s_law_fine ["thing"] KX G ?a ?l ?c ?k ?b
      (case a => k_is); (case l => k_is); (case c => k_is); (case k => k_is)
      (case b => exact fun _ _ _ _ _ _ us hl => match us, hl with | [_], _ => rfl)
    have D__law_right : L2.Dfn (L2.KOf KX) mg "_law_right" Pv.s_law_right ["thing"] := by
      dsimp only [L2.KOf]
      refine' Pv.dfn_mk "_law_right" Pv.s_law_right ["thing"] KX G ?a ?l ?c ?k ?b
      (case a => k_is); (case l => k_is); (case c => k_is); (case k => k_is)
      (case b => exact fun _ _ _ _ _ _ us hl => match us, hl with | [_], _ => rfl)
    have m_abs : mg "abs" = none := by
      refine' PySem.W.mg_none_of KX G ?z
      (case z => k_is)
    have m_bool : mg "bool" = none := by
      refine' PySem.W.mg_none_of KX G ?z
      (case z => k_is)
    have m_int : mg "int" = none := by
      refine' PySem.W.mg_none_of KX G ?z
      (case z => k_is)
    have m_isinstance : mg "isinstance" = none := by
      refine' PySem.W.mg_none_of KX G ?z
      (case z => k_is)
    have m_len : mg "len" = none := by
      refine' PySem.W.mg_none_of KX G ?z
      (case z => k_is)
    have m_list : mg "list" = none := by
      refine' PySem.W.mg_none_of KX G ?z
      (case z => k_is)
    have m_max : mg "max" = none := by
      refine' PySem.W.mg_none_of KX G ?z
      (case z => k_is)
    have m_min : mg "min" = none := by
      refine' PySem.W.mg_none_of KX G ?z
      (case z => k_is)
    have m_ord : mg "ord" = none := by
      refine' PySem.W.mg_none_of KX G ?z
      (case z => k_is)
    have m_range : mg "range" = none := by
      refine' PySem.W.mg_none_of KX G ?z
      (case z => k_is)
    have m_str : mg "str" = none := by
      refine' PySem.W.mg_none_of KX G ?z
      (case z => k_is)
    have m_tuple : mg "tuple" = none := by
      refine' PySem.W.mg_none_of KX G ?z
      (case z => k_is)
    have g_MOST_DEEP : ∃ t, mg "MOST_DEEP" = some (.int 5 t) := by
      refine' Pv.glob_mk KX G ?z
      (case z => k_is)
    obtain ⟨t_MOST_DEEP, g_MOST_DEEP⟩ := g_MOST_DEEP
    have g_MOST_PARTS : ∃ t, mg "MOST_PARTS" = some (.int 40 t) := by
      refine' Pv.glob_mk KX G ?z
      (case z => k_is)
    obtain ⟨t_MOST_PARTS, g_MOST_PARTS⟩ := g_MOST_PARTS
    have g_MOST_SIGNS : ∃ t, mg "MOST_SIGNS" = some (.int 60 t) := by
      refine' Pv.glob_mk KX G ?z
      (case z => k_is)
    obtain ⟨t_MOST_SIGNS, g_MOST_SIGNS⟩ := g_MOST_SIGNS
    have g_PERCENT : ∃ t, mg "PERCENT" = some (.int 37 t) := by
      refine' Pv.glob_mk KX G ?z
      (case z => k_is)
    obtain ⟨t_PERCENT, g_PERCENT⟩ := g_PERCENT
    obtain ⟨CN, nt, xN⟩ : ∃ C, Pv.NTk (L2.KOf KX) C ∧ L2.XP (L2.KOf KX) mg "NoThing" C := by
      dsimp only [L2.KOf]
      refine' L2.by_name KX (x := "NoThing") ?n ⟨?c0, ?c1⟩
      (case n => k_is)
      (case c0 => refine' ⟨⟨?cl, ?ha, ?hn, ?ht, ?hm⟩, ?k1, ?k2, ?k3, ?k4, ?k5, ?he⟩; (case cl => refine' L2.xcls_mk ?xq ?xo ?xs ?xg ?xh ?xk; (case xq => kernel_rfl); (case xo => kernel_rfl); (case xs => k_is); (case xg => k_is); (case xh => k_is); (case xk => k_is)); (case ha => k_is); (case hn => first | k_is | kernel_rfl); (case ht => first | k_is | kernel_rfl); (case hm => first | k_is | kernel_rfl); (case k1 => kernel_rfl); (case k2 => kernel_rfl); (case k3 => kernel_rfl); (case k4 => kernel_rfl); (case k5 => kernel_rfl); (case he => k_is))
      (case c1 => refine' ⟨?cl, ?ei, ?m⟩; (case cl => refine' L2.xcls_mk ?xq ?xo ?xs ?xg ?xh ?xk; (case xq => kernel_rfl); (case xo => kernel_rfl); (case xs => k_is); (case xg => k_is); (case xh => k_is); (case xk => k_is)); (case ei => kernel_rfl); (case m => refine' PySem.W.mg_of KX G ?z; (case z => k_is)))
    refine' Pv.law_mk KX G hmg ?a ?l ?c ?k ?ok
    (case a => k_is); (case l => k_is); (case c => k_is); (case k => k_is)
    case ok =>
      intro base fd F
      have f_cell := Pv.ok_cell_at (P := PySem.Challenge.rw_papervault_k01_what_is_a_thing.prog) (w := w) (base := base) D__law_cell_at m_len
      have f_stream := Pv.ok_stream (P := PySem.Challenge.rw_papervault_k01_what_is_a_thing.prog) (w := w) (base := base) D__law_stream
      have f_take := Pv.ok_take (P := PySem.Challenge.rw_papervault_k01_what_is_a_thing.prog) (w := w) (base := base) D__law_take
      have f_number := Pv.ok_number D__law_number f_take m_range m_min
      have f_text := Pv.ok_text D__law_text f_take m_range
      have f_thing := Pv.ok_thing D__law_thing f_take f_number f_text m_range m_tuple 6
      have f_whole := Pv.ok_wholeO (P := PySem.Challenge.rw_papervault_k01_what_is_a_thing.prog) (w := w) (base := base) nt D_is_whole m_isinstance m_int m_bool
      have f_signs := Pv.ok_signsO (P := PySem.Challenge.rw_papervault_k01_what_is_a_thing.prog) (w := w) (base := base) D_has_signs_of_things m_ord g_PERCENT
      have f_within := Pv.ok_withinO nt D_is_thing_within D_is_tuple_within f_whole f_signs m_isinstance m_tuple m_str m_int m_len m_abs g_MOST_SIGNS g_MOST_PARTS 6
      have f_is := Pv.ok_isO D_is_thing f_within g_MOST_DEEP
      have f_deep := Pv.ok_deepO (P := PySem.Challenge.rw_papervault_k01_what_is_a_thing.prog) (w := w) (base := base) nt D__law_deep m_isinstance m_tuple m_max 14
      have f_fine := Pv.ok_fineO (P := PySem.Challenge.rw_papervault_k01_what_is_a_thing.prog) (w := w) (base := base) nt D__law_fine m_isinstance m_tuple m_str m_int m_bool m_len m_ord m_abs 14
      have f_right := Pv.ok_rightO nt D__law_right f_is f_deep f_fine m_isinstance m_bool
      have f_bad := Pv.ok_bad D__law_bad f_take f_text xN m_len
      have f_wrap := Pv.ok_wrap (CN := CN) D__law_wrapped f_take f_thing m_range m_len m_tuple
      have f_put := Pv.ok_put (CN := CN) D__law_put_in f_take m_isinstance m_len m_tuple 6
      have f_spoilt := Pv.ok_spoilt nt D__law_spoilt_right f_take f_bad f_put f_wrap f_right m_isinstance m_list
      exact Pv.ok_law F f_cell f_stream f_take f_thing f_is f_wrap f_right f_spoilt
#print axioms PySem.Challenge.cw_papervault_k01_what_is_a_thing_holds
