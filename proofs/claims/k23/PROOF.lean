import PyProof.Rows.All
import Wide.All
import OpenK.AllK
import Wide.FinOn
import PyProof.EqAt
import PyProof.EqKinds
import PyProof.TupleCall
import KE.BitLaws
import KE.KNestM
import PyProof.GenQ
import PyProof.Rows.TupAdd
import PyProof.Rows.RuleIs
import PyProof.IsiHeapPairs
import PyProof.IsiPairs
import PyProof.IsiNone
import PyProof.ReprRoads
import KE.KRevSl
import KE.KSortKey
import PyProof.Rows.SetFrom
import KE.KDictSum
import PyProof.ListRange
import PyProof.TupleOfSeq
import PyProof.ListMulRoad
import KE.KStar
import KE.KUnpack
import PyProof.Rows.FStr
import PyProof.AutoSeq1
import PyProof.StationsW
import OpenK.KOwn
import PyProof.InstStoreFacts
import OpenK.KCls
import KE.KIsAll
import PySem.Challenge.RW_rivalsets_k23_doubled_and_spread
set_option Elab.async false
set_option linter.all false
set_option maxRecDepth 100000
set_option maxHeartbeats 4000000
/-! THE HAND LAYER, for ints, bools, texts, own classes, lists, tuples, dicts, comprehensions, walks over dicts, enumerate, zip, reversed, texts, calls, loops. Paste it whole ahead of your own text; what your proof does not reach may be deleted. -/
namespace L2
open PySem PySem.Spec PyProof.Rows

/-- a key: an int or a str -/
abbrev Key := Sum Int Str
def keyIs : Key → Value → Bool
  | .inl k, v => Value.isInt k v
  | .inr x, v => Value.isStrOf x v
def keyH (w : World) : Key → Int
  | .inl k => hashInt k
  | .inr x => hashStr w x
theorem keyIs_shape : ∀ {k : Key} {v : Value}, keyIs k v = true → (∃ i t, k = Sum.inl i ∧ v = Value.int i t) ∨ (∃ x t, k = Sum.inr x ∧ v = Value.str x t)
  | .inl i, v, h => by
    obtain ⟨t, e⟩ := Value.isInt_shape (k := i) (v := v) h
    exact .inl ⟨i, t, rfl, e⟩
  | .inr x, v, h => by
    obtain ⟨t, e⟩ := Value.isStrOf_shape (x := x) (v := v) h
    exact .inr ⟨x, t, rfl, e⟩
theorem key_ll (a b : Int) : decide ((Sum.inl a : Key) = Sum.inl b) = (a == b) := by
  by_cases e : a = b
  · subst e; simp
  · have h : ¬ (Sum.inl a : Key) = Sum.inl b := fun q => e (Sum.inl.inj q)
    rw [decide_eq_false h]
    exact (beq_eq_false_iff_ne.mpr e).symm
theorem key_rr (a b : Str) : decide ((Sum.inr a : Key) = Sum.inr b) = decide (a = b) := by
  by_cases e : a = b
  · subst e; simp
  · have h : ¬ (Sum.inr a : Key) = Sum.inr b := fun q => e (Sum.inr.inj q)
    rw [decide_eq_false h, decide_eq_false e]
theorem key_lr (a : Int) (b : Str) : decide ((Sum.inl a : Key) = Sum.inr b) = false := decide_eq_false (fun q => nomatch q)
theorem key_rl (a : Str) (b : Int) : decide ((Sum.inr a : Key) = Sum.inl b) = false := decide_eq_false (fun q => nomatch q)

def mixKind (prog : Program) (w : World) : PySem.KeyKind prog w Key where
  is := keyIs
  hash := keyH w
  inj := fun v a b ha hb => by
    rcases keyIs_shape ha with ⟨i, t, rfl, rfl⟩ | ⟨x, t, rfl, rfl⟩
    · rcases keyIs_shape hb with ⟨j, u, rfl, e⟩ | ⟨y, u, rfl, e⟩
      · injection e with e1 _; rw [e1]
      · exact nomatch e
    · rcases keyIs_shape hb with ⟨j, u, rfl, e⟩ | ⟨y, u, rfl, e⟩
      · exact nomatch e
      · injection e with e1 _; rw [e1]
  byValue := fun k v h => by
    rcases keyIs_shape h with ⟨i, t, rfl, rfl⟩ | ⟨x, t, rfl, rfl⟩ <;> rfl
  pyHash := fun hv h => by
    rcases keyIs_shape hv with ⟨i, t, rfl, rfl⟩ | ⟨x, t, rfl, rfl⟩
    · exact wpAny_pyHash_int h
    · exact wpAny_pyHash_str h
  eqBool := fun hu hv h => by
    rcases keyIs_shape hu with ⟨i, t, rfl, rfl⟩ | ⟨x, t, rfl, rfl⟩
    · rcases keyIs_shape hv with ⟨j, u, rfl, rfl⟩ | ⟨y, u, rfl, rfl⟩
      · rw [key_ll] at h; exact wpAny_eqBool_int h
      · rw [key_lr] at h; exact SeqAt.EqAt.int_str i t y u _ _ _ _ h
    · rcases keyIs_shape hv with ⟨j, u, rfl, rfl⟩ | ⟨y, u, rfl, rfl⟩
      · rw [key_rl] at h; exact SeqAt.EqAt.str_int x t j u _ _ _ _ h
      · rw [key_rr] at h; exact wpAny_eqBool_str h
  «strs» := fun k x t v h => by
    rcases keyIs_shape h with ⟨i, u, rfl, e⟩ | ⟨y, u, rfl, e⟩
    · exact nomatch e
    · injection e with e1 _
      subst e1
      cases v <;> rfl

end L2

namespace L2
open PySem PySem.Spec PyProof.Rows

/-- a value, without the heap -/
inductive V where
  | non | bl (b : Bool) | int (i : Int) | str (x : Str) | byt (b : Array UInt8) | flt (b : UInt64) | ref (a : Addr) | ty (n : String)
  deriving DecidableEq

def RelV : V → Value → Prop
  | .non, u => u = Value.none
  | .bl b, u => u = Value.bool b
  | .int i, u => ∃ t, u = Value.int i t
  | .str x, u => ∃ t, u = Value.str x t
  | .byt b, u => ∃ t, u = Value.bytes b t
  | .flt b, u => ∃ t, u = Value.float b t
  | .ref a, u => u = Value.ref a
  | .ty n, u => u = Value.type n

abbrev Vals : List V → List Value → Prop := Paired RelV
theorem Vals.length {xs : List V} {us : List Value} (r : Vals xs us) : xs.length = us.length := Paired.length r
theorem Vals.get : ∀ {xs : List V} {us : List Value} {i : Nat} {x : V}, Vals xs us → xs[i]? = some x → ∃ u, us[i]? = some u ∧ RelV x u
  | _, _, _, _, .nil, e => by simp at e
  | _, _, 0, _, .cons r _, e => by simp at e; subst e; exact ⟨_, rfl, r⟩
  | _, _, i + 1, x, .cons _ t, e => by
    obtain ⟨u, h1, h2⟩ := Vals.get (i := i) (x := x) t (by simpa using e)
    exact ⟨u, by simpa using h1, h2⟩
theorem Vals.set {x : V} {u : Value} (r : RelV x u) : ∀ {xs : List V} {us : List Value} (i : Nat), Vals xs us → Vals (xs.set i x) (us.set i u)
  | _, _, _, .nil => .nil
  | _, _, 0, .cons _ t => .cons r t
  | _, _, i + 1, .cons q t => .cons q (Vals.set r i t)
theorem Vals.append : ∀ {xs ys : List V} {us ws : List Value}, Vals xs us → Vals ys ws → Vals (xs ++ ys) (us ++ ws)
  | _, _, _, _, .nil, s => s
  | _, _, _, _, .cons r t, s => .cons r (Vals.append t s)
theorem Vals.take : ∀ {xs : List V} {us : List Value} (n : Nat), Vals xs us → Vals (xs.take n) (us.take n)
  | _, _, 0, _ => .nil
  | _, _, _ + 1, .nil => .nil
  | _, _, n + 1, .cons r t => .cons r (Vals.take n t)
theorem Vals.drop : ∀ {xs : List V} {us : List Value} (n : Nat), Vals xs us → Vals (xs.drop n) (us.drop n)
  | _, _, 0, r => r
  | _, _, _ + 1, .nil => .nil
  | _, _, n + 1, .cons _ t => Vals.drop n t
def RelO : Option V → Option Value → Prop
  | some v, some u => RelV v u
  | none, none => True
  | _, _ => False
def KV {κ : Type} : List (κ × V) → List (κ × Value) → Prop := Paired fun (p : κ × V) (q : κ × Value) => p.1 = q.1 ∧ RelV p.2 q.2

/-- a key of a dict (00_mix): an int or a text -/
def kV : Key → V
  | .inl i => .int i
  | .inr x => .str x

/-- what stands at a tracked address -/
inductive HO where
  /-- a list -/
  | lst (xs : List V)
  /-- a tuple (never changes) -/
  | tup (xs : List V)
  /-- a dict whose keys are ints and texts; one whose keys are tuples of ints and texts (the empty one is both) -/
  | dK (kvs : List (Key × V)) | dT (kvs : List (List Key × V))
  /-- a set of ints: its members, its size -/
  | set (S : Int → Bool) (n : Nat)
  /-- an instance of the class at C, its dict at dx, its attributes -/
  | ins (C dx : Addr) (fs : List (Str × V))
  /-- the dict of the instance at x -/
  | own (x : Addr)
  /-- the dict of an exception -/
  | xd (fs : List (Str × V))
  /-- a bound method, f of x -/
  | met (f x : Addr)
  /-- a range object lo, lo + 1, .. below hi -/
  | rng (lo hi : Int)
  /-- a thing that is known to the object (the script; a dict while a loop walks it): read, never written while it is so -/
  | frz (o : Obj) (u : HO)
  /-- a code object's table -/
  | tbl (ps : Array Value)
  /-- any other thing, by what is true of its one object (a def of one's own: SetO a S n := HO.ext fun h => ..) -/
  | ext (φ : Heap → Prop)

abbrev Hp := Addr → Option HO
def upd (H : Hp) (a : Addr) (o : HO) : Hp := fun b => if b = a then some o else H b
theorem upd_same {H : Hp} {a : Addr} {o : HO} : upd H a o a = some o := by unfold upd; rw [if_pos rfl]
theorem upd_ne {H : Hp} {a b : Addr} {o : HO} (h : b ≠ a) : upd H a o b = H b := by unfold upd; rw [if_neg h]
/-- two objects of different content stand apart -/
theorem ne_of {H : Hp} {a b : Addr} {o u : HO} (h : H a = some o) (h' : H b = some u) (d : o ≠ u) : a ≠ b := by
  intro e; subst e; rw [h] at h'; exact d (Option.some.inj h')
theorem ne_of_none {H : Hp} {a b : Addr} {o : HO} (h : H a = some o) (h' : H b = none) : a ≠ b := by
  intro e; subst e; rw [h] at h'; cases h'

section
variable (P : Program) (w : World)
def ObjOk (H : Hp) (h : Heap) (a : Addr) : HO → Prop
  | .lst xs => xs.length ≤ sizeLine ∧ ∃ (its : List Value) (n : Nat), Vals xs its ∧ h.get? a = some { cls := .type "list", data := .seq its.toArray n }
  | .tup xs => xs.length ≤ sizeLine ∧ ∃ its : List Value, Vals xs its ∧ IsTup h a its.toArray
  | .dK kvs => kvs.length ≤ sizeLine ∧ (a == sysModules) = false ∧ ∃ vs, KV kvs vs ∧ h.DictOf (mixKind P w) a vs
  | .dT kvs => kvs.length ≤ sizeLine ∧ (a == sysModules) = false ∧ ∃ xs : List (List Key × Addr × Value),
      Paired (fun (p : List Key × V) (q : List Key × Addr × Value) => p.1 = q.1 ∧ H q.2.1 = some (.tup (p.1.map kV)) ∧ RelV p.2 q.2.2) kvs xs ∧
      ∃ o es ep, h.get? a = some o ∧ o.ExactDict ∧ o.data = .dict es ep ∧ es.toList = xs.map (entryOfKey (tupleKind (mixKind P w))) ∧ (xs.map (·.1)).Nodup
  | .set S n => h.SetOf (intKind P w) a S n
  | .ins C dx fs => H dx = some (.own a) ∧ fs.length ≤ 1000 ∧ dx ≠ a ∧ h.get? a = some (PySem.W.instObj C dx) ∧
      ∃ mA, h.Ns1 dx mA ∧ (∀ f, RelO (fs.lookup f) (mA f)) ∧ PySem.Within mA (fs.map (·.1))
  | .own _ => ∃ o, h.get? a = some o
  | .xd fs => ∃ mA, h.Ns1 a mA ∧ ∀ f, RelO (fs.lookup f) (mA f)
  | .rng lo hi => ∃ t u v, h.get? a = some { cls := .type "range", data := .fields #[.int lo t, .int hi u, .int 1 v] }
  | .frz o u => h.get? a = some o ∧ ObjOk H h a u
  | .tbl ps => h.get? a = some { cls := .none, data := .fields ps }
  | .met f x => h.get? a = some (PySem.W.methodObj (.ref f) (.ref x))
  | .ext φ => φ h ∧ (∃ o, h.get? a = some o) ∧ ∀ h1 h2 : Heap, φ h1 → (∀ o, h1.get? a = some o → h2.get? a = some o) → φ h2
/-- the abstract heap is held -/
def HOk (H : Hp) (h : Heap) : Prop := ∀ a o, H a = some o → ObjOk P w H h a o
end

section
variable {P : Program} {w : World} {H H' : Hp} {h h' : Heap} {a : Addr} {o : HO}
theorem ObjOk.lt (x : ObjOk P w H h a o) : a < h.objs.size := by
  cases o with
  | lst xs => obtain ⟨_, _, _, _, e⟩ := x; exact Heap.lt_size e
  | tup xs => obtain ⟨_, _, _, p⟩ := x; exact p.lt
  | dK kvs => obtain ⟨_, _, _, _, o, _, _, e, _⟩ := x; exact Heap.lt_size e
  | dT kvs => obtain ⟨_, _, _, _, o, _, _, e, _⟩ := x; exact Heap.lt_size e
  | set S n => obtain ⟨o, _, _, _, e, _⟩ := x; exact Heap.lt_size e
  | ins C dx fs => obtain ⟨_, _, _, e, _⟩ := x; exact Heap.lt_size e
  | own y => obtain ⟨_, e⟩ := x; exact Heap.lt_size e
  | xd fs => obtain ⟨_, ⟨_, _, _, e, _⟩, _⟩ := x; exact Heap.lt_size e
  | rng lo hi => obtain ⟨_, _, _, e⟩ := x; exact Heap.lt_size e
  | frz ob u => obtain ⟨e, _⟩ := x; exact Heap.lt_size e
  | tbl ps => exact Heap.lt_size (show h.get? a = some _ from x)
  | met f y => exact Heap.lt_size (show h.get? a = some _ from x)
  | ext φ => obtain ⟨_, ⟨_, e⟩, _⟩ := x; exact Heap.lt_size e
theorem Paired.mapP {α β : Type} {F G : α → β → Prop} : ∀ {l₁ : List α} {l₂ : List β}, Paired F l₁ l₂ → (∀ a b, F a b → G a b) → Paired G l₁ l₂
  | _, _, .nil, _ => .nil
  | _, _, .cons r t, f => .cons (f _ _ r) (Paired.mapP t f)
/-- what an object's description leans on: its own object, its own dict, the tuples -/
theorem ObjOk.stay (x : ObjOk P w H h a o) (k : ∀ b u, (b = a ∨ H b = some (.own a)) → h.get? b = some u → h'.get? b = some u)
    (ho : ∀ b, H b = some (.own a) → H' b = some (.own a)) (ht : ∀ b xs, H b = some (.tup xs) → H' b = some (.tup xs)) : ObjOk P w H' h' a o := by
  induction o with
  | lst xs => obtain ⟨z, its, n, r, e⟩ := x; exact ⟨z, its, n, r, k _ _ (.inl rfl) e⟩
  | tup xs => obtain ⟨z, its, r, ob, e, c⟩ := x; exact ⟨z, its, r, ob, k _ _ (.inl rfl) e, c⟩
  | dK kvs => obtain ⟨z, y, vs, r, ob, es, ep, e, c⟩ := x; exact ⟨z, y, vs, r, ob, es, ep, k _ _ (.inl rfl) e, c⟩
  | dT kvs =>
    obtain ⟨z, y, xs, r, ob, es, ep, e, c⟩ := x
    exact ⟨z, y, xs, Paired.mapP r fun p q z => ⟨z.1, ht _ _ z.2.1, z.2.2⟩, ob, es, ep, k _ _ (.inl rfl) e, c⟩
  | set S n => obtain ⟨ob, es, ep, t, e, c⟩ := x; exact ⟨ob, es, ep, t, k _ _ (.inl rfl) e, c⟩
  | ins C dx fs =>
    obtain ⟨d, z, ne, e, mA, ⟨od, es, ep, e2, c⟩, r⟩ := x
    exact ⟨ho _ d, z, ne, k _ _ (.inl rfl) e, mA, ⟨od, es, ep, k _ _ (.inr d) e2, c⟩, r⟩
  | own y => obtain ⟨ob, e⟩ := x; exact ⟨ob, k _ _ (.inl rfl) e⟩
  | xd fs => obtain ⟨mA, ⟨od, es, ep, e, c⟩, r⟩ := x; exact ⟨mA, ⟨od, es, ep, k _ _ (.inl rfl) e, c⟩, r⟩
  | rng lo hi => obtain ⟨t, u, v, e⟩ := x; exact ⟨t, u, v, k _ _ (.inl rfl) e⟩
  | frz ob u ih => obtain ⟨e, q⟩ := x; exact ⟨k _ _ (.inl rfl) e, ih q⟩
  | tbl ps =>
    have e : h.get? a = some { cls := .none, data := .fields ps } := x
    show h'.get? a = some { cls := .none, data := .fields ps }
    exact k a _ (.inl rfl) e
  | met f y =>
    have e : h.get? a = some (PySem.W.methodObj (.ref f) (.ref y)) := x
    show h'.get? a = some (PySem.W.methodObj (.ref f) (.ref y))
    exact k a _ (.inl rfl) e
  | ext φ => obtain ⟨p, ⟨o, e⟩, st⟩ := x; exact ⟨st _ _ p fun o q => k _ _ (.inl rfl) q, ⟨o, k _ _ (.inl rfl) e⟩, st⟩
theorem HOk.lt (x : HOk P w H h) (e : H a = some o) : a < h.objs.size := (x a o e).lt
theorem HOk.fresh (x : HOk P w H h) (e : h.objs.size ≤ a) : H a = none := by
  cases q : H a with
  | none => rfl
  | some u => exact absurd (Nat.lt_of_lt_of_le (x.lt q) e) (Nat.lt_irrefl _)
/-- every object of the heap is kept -/
theorem HOk.kept (x : HOk P w H h) (k : ∀ b u, h.get? b = some u → h'.get? b = some u) : HOk P w H h' := fun a o e =>
  (x a o e).stay (fun b u _ q => k b u q) (fun _ q => q) fun _ _ q => q
/-- a new object is laid and tracked -/
theorem HOk.laid (x : HOk P w H h) (k : ∀ b u, h.get? b = some u → h'.get? b = some u) (hp : h.objs.size ≤ a) (new : ObjOk P w (upd H a o) h' a o) : HOk P w (upd H a o) h' := fun b u e => by
  have hn := x.fresh hp
  by_cases hb : b = a
  · subst hb; rw [upd_same] at e; cases e; exact new
  · rw [upd_ne hb] at e
    exact (x b u e).stay (fun c v _ q => k c v q) (fun c q => by rw [upd_ne (ne_of_none q hn)]; exact q) fun c xs q => by rw [upd_ne (ne_of_none q hn)]; exact q
end

/-- what may be read as u: it is u, or a known u -/
def Rd (H : Hp) (a : Addr) (u : HO) : Prop := H a = some u ∨ ∃ o, H a = some (.frz o u)
theorem Rd.of {H : Hp} {a : Addr} {u : HO} (h : H a = some u) : Rd H a u := .inl h
theorem Rd.ok {P : Program} {w : World} {H : Hp} {h : Heap} {a : Addr} {u : HO} (r : Rd H a u) (x : HOk P w H h) : ObjOk P w H h a u := by
  rcases r with r | ⟨o, r⟩
  · exact x a u r
  · obtain ⟨_, q⟩ := x a _ r
    exact q
/-- what may be written -/
def Mut : Option HO → Prop
  | some (.lst _) => True
  | some (.dK _) => True
  | some (.dT _) => True
  | some (.set _ _) => True
  | some (.ins _ _ _) => True
  | some (.ext _) => True
  | _ => False
section
variable {P : Program} {w : World} {H : Hp} {h h' : Heap} {x e : Addr} {o' : HO}
/-- the object at e is changed: x itself, or the dict of the instance x -/
theorem HOk.write (ok : HOk P w H h) (mu : Mut (H x)) (he : e = x ∨ H e = some (.own x)) (k : ∀ b u, b ≠ e → h.get? b = some u → h'.get? b = some u) (heo : ∃ u, h'.get? e = some u)
    (new : ObjOk P w (upd H x o') h' x o') : HOk P w (upd H x o') h' := fun b u q => by
  have nown : ∀ c y, H c = some (.own y) → c ≠ x := fun c y r z => by subst z; rw [r] at mu; exact mu
  have ntup : ∀ c xs, H c = some (.tup xs) → c ≠ x := fun c xs r z => by subst z; rw [r] at mu; exact mu
  by_cases hb : b = x
  · subst hb; rw [upd_same] at q; cases q; exact new
  · rw [upd_ne hb] at q
    by_cases hbe : b = e
    · have q' : H b = some (.own x) := by
        rcases he with z | z
        · exact absurd (hbe.trans z) hb
        · rw [hbe]; exact z
      rw [q] at q'; cases q'
      obtain ⟨v, hv⟩ := heo
      exact ⟨v, by rw [hbe]; exact hv⟩
    · refine (ok b u q).stay (fun c v hc r => k c v ?_ r) (fun c r => by rw [upd_ne (nown c b r)]; exact r) fun c xs r => by rw [upd_ne (ntup c xs r)]; exact r
      rcases hc with rfl | hc
      · exact hbe
      · rintro rfl
        rcases he with z | z
        · exact nown c b hc z
        · rw [hc] at z; cases z; exact hb rfl
end

/-! ### kept unless tracked; of the frames at fs (the callers') the slots may change (an exception that passes writes there); of the records at ex (iterators) nothing is said -/
structure Un (fs ex : List Addr) (H H' : Hp) (h h' : Heap) : Prop where
  keep : ∀ b o, h.get? b = some o → H b = none → b ∉ fs → b ∉ ex → h'.get? b = some o
  slot : ∀ b o, h.get? b = some o → H b = none → b ∈ fs → b ∉ ex → ∃ sl, h'.get? b = some { o with slots := sl }
  free : ∀ b o, h.get? b = some o → H b = none → b ∉ ex → H' b = none
  there : ∀ b o, h.get? b = some o → b ∉ ex → ∃ o', h'.get? b = some o'
  tups : ∀ b xs, H b = some (.tup xs) → H' b = some (.tup xs)
  frzs : ∀ b o u, H b = some (.frz o u) → H' b = some (.frz o u)
  tbls : ∀ b ps, H b = some (.tbl ps) → ∃ more, H' b = some (.tbl (ps ++ more))
section
variable {fs fs' ex ex' : List Addr} {H H1 H2 : Hp} {h h1 h2 h' : Heap} {a x e : Addr} {o : HO}
theorem Un.any (u : Un fs ex H H1 h h1) {b : Addr} {ob : Obj} (q : h.get? b = some ob) (n : H b = none) (hx : b ∉ ex) : ∃ sl, h1.get? b = some { ob with slots := sl } := by
  by_cases hb : b ∈ fs
  · exact u.slot b ob q n hb hx
  · exact ⟨ob.slots, u.keep b ob q n hb hx⟩
theorem Un.trans (a : Un fs ex H H1 h h1) (b : Un fs ex H1 H2 h1 h2) : Un fs ex H H2 h h2 where
  keep := fun c ob q n hc hx => b.keep c ob (a.keep c ob q n hc hx) (a.free c ob q n hx) hc hx
  slot := fun c ob q n hc hx => by
    obtain ⟨sl, e1⟩ := a.slot c ob q n hc hx
    obtain ⟨sl', e2⟩ := b.slot c _ e1 (a.free c ob q n hx) hc hx
    exact ⟨sl', e2⟩
  free := fun c ob q n hx => by
    obtain ⟨o', e1⟩ := a.there c ob q hx
    exact b.free c o' e1 (a.free c ob q n hx) hx
  there := fun c ob q hx => by
    obtain ⟨o', e1⟩ := a.there c ob q hx
    exact b.there c o' e1 hx
  tups := fun c xs q => b.tups c xs (a.tups c xs q)
  frzs := fun c ob xs q => b.frzs c ob xs (a.frzs c ob xs q)
  tbls := fun c ps q => by
    obtain ⟨m1, e1⟩ := a.tbls c ps q
    obtain ⟨m2, e2⟩ := b.tbls c _ e1
    exact ⟨m1 ++ m2, by rw [e2, Array.append_assoc]⟩
theorem Un.kept (k : ∀ b u, h.get? b = some u → h'.get? b = some u) : Un fs ex H H h h' :=
  ⟨fun b ob q _ _ _ => k b ob q, fun b ob q _ _ _ => ⟨ob.slots, k b ob q⟩, fun _ _ _ n _ => n, fun b ob q _ => ⟨ob, k b ob q⟩, fun _ _ q => q, fun _ _ _ q => q, fun _ ps q => ⟨#[], by rw [q]; simp⟩⟩
theorem Un.refl : Un fs ex H H h h := Un.kept fun _ _ q => q
theorem Un.laid (k : ∀ b u, h.get? b = some u → h'.get? b = some u) (hp : h.objs.size ≤ a) (hn : H a = none) : Un fs ex H (upd H a o) h h' where
  keep := fun b u q _ _ _ => k b u q
  slot := fun b u q _ _ _ => ⟨u.slots, k b u q⟩
  free := fun b u q n _ => by rw [upd_ne (Nat.ne_of_lt (Nat.lt_of_lt_of_le (Heap.lt_size q) hp))]; exact n
  there := fun b u q _ => ⟨u, k b u q⟩
  tups := fun b xs q => by rw [upd_ne (ne_of_none q hn)]; exact q
  frzs := fun b u xs q => by rw [upd_ne (ne_of_none q hn)]; exact q
  tbls := fun b ps q => ⟨#[], by rw [upd_ne (ne_of_none q hn), q]; simp⟩
theorem Un.write (mu : Mut (H x)) (he : e = x ∨ H e = some (.own x)) (k : ∀ b u, b ≠ e → h.get? b = some u → h'.get? b = some u) (heo : ∃ u, h'.get? e = some u) : Un fs ex H (upd H x o) h h' := by
  have hx : ∀ b, H b = none → b ≠ x := fun b n z => by subst z; rw [n] at mu; exact mu
  have hb : ∀ b, H b = none → b ≠ e := fun b n z => by
    subst z
    rcases he with r | r
    · exact hx b n r
    · rw [n] at r; cases r
  have hm : ∀ b u, H b = some u → ¬ Mut (some u) → b ≠ x := fun b u q nm z => by subst z; rw [q] at mu; exact nm mu
  refine ⟨fun b u q n _ _ => k b u (hb b n) q, fun b u q n _ _ => ⟨u.slots, k b u (hb b n) q⟩, fun b u q n _ => by rw [upd_ne (hx b n)]; exact n, fun b u q _ => ?_,
    fun b xs q => by rw [upd_ne (hm b _ q fun z => z)]; exact q, fun b u xs q => by rw [upd_ne (hm b _ q fun z => z)]; exact q, fun b ps q => ⟨#[], by rw [upd_ne (hm b _ q fun z => z), q]; simp⟩⟩
  by_cases hbe : b = e
  · subst hbe; exact heo
  · exact ⟨u, k b u hbe q⟩
theorem Un.mono (u : Un fs ex H H1 h h1) (hs : ∀ b ∈ fs, b ∈ fs') (hx : ∀ b ∈ ex, b ∈ ex') : Un fs' ex' H H1 h h1 :=
  ⟨fun b ob q n hb he => u.keep b ob q n (fun z => hb (hs b z)) fun z => he (hx b z), fun _ _ q n _ he => u.any q n fun z => he (hx _ z), fun b ob q n he => u.free b ob q n fun z => he (hx b z), fun b ob q he => u.there b ob q fun z => he (hx b z), u.tups, u.frzs, u.tbls⟩
end

/-! ### the heap without what is tracked -/
def trk (h : Heap) (H : Hp) : List Addr := (List.range h.objs.size).filter fun a => (H a).isSome
def hidT (h : Heap) (H : Hp) : Heap := PySem.W.hideAll h (trk h H)
theorem hidT_size (h : Heap) (H : Hp) : (hidT h H).objs.size = h.objs.size := PySem.W.hideAll_size _ _
theorem hidT_get {h : Heap} {H : Hp} {b : Addr} {o : Obj} (e : h.get? b = some o) (n : H b = none) : (hidT h H).get? b = some o :=
  PySem.W.hideAll_get _ e fun hm => by
    have q : (H b).isSome = true := (List.mem_filter.mp hm).2
    rw [n] at q; simp at q
theorem of_hidT {h : Heap} {H : Hp} {b : Addr} {o : Obj} (e : (hidT h H).get? b = some o) : h.get? b = some o ∧ H b = none := by
  have e' : h.get? b = some o := PySem.W.of_hideAll (trk h H) e
  refine ⟨e', ?_⟩
  cases q : H b with
  | none => rfl
  | some x =>
    have hm : b ∈ trk h H := List.mem_filter.mpr ⟨List.mem_range.mpr (Heap.lt_size e'), by simp [q]⟩
    have z : (hidT h H).get? b = none := PySem.W.hideAll_none (trk h H) hm
    rw [z] at e; cases e

/-! ### OpenK's ledger, filled with every new object but one -/
def allNews (g h : Heap) (L : Addr) : List (Addr × Obj) := (List.range h.objs.size).filterMap fun a => if a = L ∨ (g.get? a).isSome = true then none else (h.get? a).map fun o => (a, o)
def rest (g h : Heap) (L d : Addr) : List (Addr × Obj) := (allNews g h L).filter fun p => decide (p.1 ≠ d)
end L2

namespace L2
open PySem PySem.Spec PyProof.Rows

/-- the module's facts, over the base: the heap at the law's entry without what is tracked there -/
structure Mod (K : PySem.W.Frag) (mg : Str → Option Value) (base : Heap) : Prop where
  kin : K.In base
  glob : base.Ns mainGlobals mg
  blt : ∃ mb, base.Ns builtinsNs mb ∧ ∀ x : Str, x ≠ "__name__" → mb x = bootBuiltins x
  nolimit : base.NoLimit

/-- the context: a def's body (or a comprehension's block) running. base: fixed through the whole law; s₀, H₀: the entry; outer: the frames whose slots others may change (a def's callers); stack: all frames that run;
   ex: iterators that were made ahead of the entry and are walked here (a comprehension's); fn: the names whose cells were made at the entry (a def: all; a comprehension's block: its own); calm: not within an except suite; pn: pins that every state bears; xe: what is wanted of an exception that leaves the code -/
structure Cx where
  prog : Program
  w : World
  K : PySem.W.Frag
  mg : Str → Option Value
  base : Heap
  A : Around
  N : List Str
  s_0 : Shared
  H_0 : Hp
  env : Env
  outer : List Env
  stack : List Env
  ex : List Addr
  fn : Str → Bool
  calm : Bool
  pn : List (Addr × Obj)
  xe : Value → Shared → Prop
/-- the callers' frames -/
def frs (l : List Env) : List Addr := l.filterMap (·.frame)
abbrev Cx.fs (X : Cx) : List Addr := frs X.outer

def Vis (sc : Scope) (x : Str) : Prop := sc.names.lookup x = some .local ∨ sc.names.lookup x = some .cell ∨ sc.names.lookup x = some .free
def Loc (sc : Scope) (x : Str) : Prop := sc.names.lookup x = some .local ∨ sc.names.lookup x = some .cell
def Look (env : Env) (h : Heap) (m : Str → Option Value) (x : Str) (u : Value) : Prop :=
  (env.kindOf x = some .local ∧ m x = some u) ∨ ((env.kindOf x = some .cell ∨ env.kindOf x = some .free) ∧ ∃ c, env.cells.lookup x = some c ∧ h.IsCell c (some u))

structure Cx.Ok (X : Cx) : Prop where
  mod : Mod X.K X.mg X.base
  kind : X.env.scope.kind = .function
  glob : X.env.globals = mainGlobals
  blt : X.env.builtins = builtinsNs
  above : X.s_0.heap.objs.size ≤ X.env.locals
  inj : ∀ x y c, X.env.cells.lookup x = some c → X.env.cells.lookup y = some c → x = y
  has : ∀ x, (X.env.kindOf x = some .cell ∨ X.env.kindOf x = some .free) → ∃ c, X.env.cells.lookup x = some c
  cab : ∀ x c, X.fn x = true → X.env.cells.lookup x = some c → X.s_0.heap.objs.size ≤ c
  hd : X.calm = true → X.A.handled = none
  frames : X.A.frames = some X.stack
  stk : X.stack = X.outer ∨ (X.stack = X.env :: X.outer ∧ X.env.frame = some X.env.locals)
  exf : ∀ b ∈ X.ex, b ≠ X.env.locals ∧ ∀ x c, X.env.cells.lookup x = some c → c ≠ b
  bs : ∀ b o, X.base.get? b = some o → X.s_0.heap.get? b = some o ∧ X.H_0 b = none
  bsz : X.base.objs.size ≤ X.s_0.heap.objs.size
  noex : ∀ b o, X.base.get? b = some o → b ∉ X.ex
  exfs : ∀ b ∈ X.ex, b ∉ X.fs
  funs : X.s_0.heap.FunFrames X.base X.outer
  frf : ∀ b ∈ X.fs, X.H_0 b = none

structure Inv (X : Cx) (pins : List (Addr × Obj)) (σ : List (Option V)) (H : Hp) (s : Shared) : Prop where
  ok : X.Ok
  os : s.os = X.s_0.os
  bare : AllBare s.gens
  base : Un X.fs X.ex X.H_0 H X.s_0.heap s.heap
  loc : ∃ m, s.heap.Ns X.env.locals m ∧ ∀ (i : Nat) (x : Str) (v : V), X.N[i]? = some x → σ[i]? = some (some v) → Vis X.env.scope x → ∃ u, RelV v u ∧ Look X.env s.heap m x u
  cell : ∀ x c, X.env.cells.lookup x = some c → ∃ v, s.heap.IsCell c v
  free : H X.env.locals = none
  freeC : ∀ x c, X.env.cells.lookup x = some c → H c = none
  pin : ∀ p ∈ X.pn ++ pins, s.heap.get? p.1 = some p.2 ∧ H p.1 = none ∧ p.1 ≠ X.env.locals ∧ p.1 ∉ X.fs ∧ ∀ v, p.2.data ≠ .cell v
  hok : HOk X.prog X.w H s.heap
  len : σ.length = X.N.length

section
variable {X : Cx} {pins : List (Addr × Obj)} {σ : List (Option V)} {H H' : Hp} {s : Shared} {h' : Heap}

theorem Cx.Ok.nofr (ok : X.Ok) {b : Addr} {o : Obj} (e : X.base.get? b = some o) : b ∉ X.fs := fun hb => by
  have := (ok.funs.mem hb).1
  rw [e] at this; cases this
theorem Inv.bs (I : Inv X pins σ H s) : ∀ b o, X.base.get? b = some o → s.heap.get? b = some o ∧ H b = none := fun b o e =>
  ⟨I.base.keep b o (I.ok.bs b o e).1 (I.ok.bs b o e).2 (I.ok.nofr e) (I.ok.noex b o e), I.base.free b o (I.ok.bs b o e).1 (I.ok.bs b o e).2 (I.ok.noex b o e)⟩
theorem Inv.bk (I : Inv X pins σ H s) : ∀ b o, X.base.get? b = some o → s.heap.get? b = some o := fun b o e => (I.bs b o e).1
theorem Inv.mod (I : Inv X pins σ H s) : Mod X.K X.mg X.base := I.ok.mod
theorem Inv.kIn (I : Inv X pins σ H s) : X.K.In s.heap := I.ok.mod.kin.keeps I.bk
theorem Inv.nolimit (I : Inv X pins σ H s) : s.heap.NoLimit := I.ok.mod.nolimit.keeps I.bk
/-- the frame over the base: for OpenK's rules (K.In X.base is I.mod.kin) -/
theorem Inv.fr (I : Inv X pins σ H s) : ∃ m, Fr X.base X.env.locals s.heap m :=
  let ⟨m, hn, _⟩ := I.loc
  ⟨m, hn, I.bk, Nat.le_trans I.ok.bsz I.ok.above⟩
theorem Inv.lt (I : Inv X pins σ H s) : X.env.locals < s.heap.objs.size := let ⟨_, hn, _⟩ := I.loc; hn.lt
theorem Inv.sz (I : Inv X pins σ H s) : X.s_0.heap.objs.size ≤ s.heap.objs.size := Nat.le_trans I.ok.above (Nat.le_of_lt I.lt)
theorem Inv.nofs (I : Inv X pins σ H s) {a : Addr} (h : s.heap.objs.size ≤ a) : a ∉ X.fs := fun hb => by
  obtain ⟨_, o, ho, _⟩ := I.ok.funs.mem hb
  exact absurd (Nat.lt_of_lt_of_le (Heap.lt_size ho) (Nat.le_trans I.sz h)) (Nat.lt_irrefl _)
theorem Inv.cne (I : Inv X pins σ H s) : ∀ x c, X.env.cells.lookup x = some c → c ≠ X.env.locals := fun x c e z => by
  obtain ⟨v, o, ho, hd⟩ := I.cell x c e
  obtain ⟨m, ⟨o', es, ep, ho', hd', _⟩, _⟩ := I.loc
  rw [z, ho'] at ho; cases ho; rw [hd'] at hd; cases hd
theorem Inv.funs (I : Inv X pins σ H s) : s.heap.FunFrames X.base X.outer := by
  have all : ∀ (l : List Env), (∀ b ∈ frs l, b ∈ X.fs) → X.s_0.heap.FunFrames X.base l → s.heap.FunFrames X.base l := by
    intro l
    induction l with
    | nil => intro _ _; trivial
    | cons env r ih =>
      intro hs hl
      obtain ⟨hk, ⟨L, o, hf, hn, ho, hd⟩, hr⟩ := hl
      have hL : L ∈ X.fs := hs L (by unfold frs; rw [List.filterMap_cons, hf]; exact List.mem_cons_self)
      obtain ⟨sl, e⟩ := I.base.slot L o ho (I.ok.frf L hL) hL fun z => I.ok.exfs L z hL
      exact ⟨hk, ⟨L, _, hf, hn, e, hd⟩, ih (fun b hb => hs b (by unfold frs; rw [List.filterMap_cons, hf]; exact List.mem_cons_of_mem _ hb)) hr⟩
  exact all X.outer (fun _ hb => hb) I.ok.funs

/-- the frames that run, for a call -/
theorem Inv.stack (I : Inv X pins σ H s) : s.heap.FunFrames X.base X.stack := by
  rcases I.ok.stk with e | ⟨e, hf⟩
  · rw [e]; exact I.funs
  · rw [e]
    obtain ⟨m, hn, _⟩ := I.loc
    refine .cons (by rw [I.ok.kind]; decide) hf hn ?_ I.funs
    exact Heap.get?_none_of_le (Nat.le_trans I.ok.bsz I.ok.above)
theorem Inv.stkSub (I : Inv X pins σ H s) : ∀ b ∈ frs X.stack, b ∈ X.env.locals :: X.fs := fun b hb => by
  rcases I.ok.stk with e | ⟨e, hf⟩
  · rw [e] at hb; exact List.mem_cons_of_mem _ hb
  · rw [e] at hb
    unfold frs at hb
    rw [List.filterMap_cons, hf] at hb
    exact hb
theorem Inv.stkFree (I : Inv X pins σ H s) : ∀ b ∈ frs X.stack, H b = none := fun b hb => by
  rcases List.mem_cons.mp (I.stkSub b hb) with e | hb
  · rw [e]; exact I.free
  · obtain ⟨_, o, ho, _⟩ := I.ok.funs.mem hb
    exact I.base.free b o ho (I.ok.frf b hb) fun z => I.ok.exfs b z hb

/-- THE STEP: the untracked objects but the frame and the records at ch are kept (the callers' frames up to slots), the frame's map is kept, the new abstract heap is held -/
theorem Inv.step {g' : Array GenState} {t' : Nat} {d' : Drawn} {ch : List Addr} (I : Inv X pins σ H s)
    (hch : ∀ b ∈ ch, (b ∈ X.ex ∨ X.s_0.heap.objs.size ≤ b) ∧ b ≠ X.env.locals ∧ (∀ x c, X.env.cells.lookup x = some c → c ≠ b) ∧ ∀ p ∈ X.pn ++ pins, p.1 ≠ b)
    (keep : ∀ b o, b ≠ X.env.locals → b ∉ X.fs → b ∉ ch → s.heap.get? b = some o → H b = none → h'.get? b = some o)
    (slot : ∀ b o, b ≠ X.env.locals → b ∈ X.fs → b ∉ ch → s.heap.get? b = some o → H b = none → ∃ sl, h'.get? b = some { o with slots := sl }) (free : ∀ b o, b ∉ ch → s.heap.get? b = some o → H b = none → H' b = none)
    (there : ∀ b o, b ∉ ch → s.heap.get? b = some o → ∃ o', h'.get? b = some o')
    (tups : ∀ b xs, H b = some (.tup xs) → H' b = some (.tup xs)) (frzs : ∀ b o u, H b = some (.frz o u) → H' b = some (.frz o u)) (tbls : ∀ b ps, H b = some (.tbl ps) → ∃ more, H' b = some (.tbl (ps ++ more)))
    (ns : ∀ m, s.heap.Ns X.env.locals m → h'.Ns X.env.locals m) (hok : HOk X.prog X.w H' h') (hg : AllBare g') :
    Inv X pins σ H' { s with heap := h', gens := g', drawn := d', toks := t' } := by
  have neL : ∀ b o, X.s_0.heap.get? b = some o → b ≠ X.env.locals := fun b o e => Nat.ne_of_lt (Nat.lt_of_lt_of_le (Heap.lt_size e) I.ok.above)
  have neC : ∀ b o, X.s_0.heap.get? b = some o → b ∉ X.ex → b ∉ ch := fun b o e hx hb => by
    rcases (hch b hb).1 with z | z
    · exact hx z
    · exact absurd (Nat.lt_of_lt_of_le (Heap.lt_size e) z) (Nat.lt_irrefl _)
  have cellK : ∀ x c, X.env.cells.lookup x = some c → ∀ v, s.heap.IsCell c v → h'.IsCell c v := fun x c e v ⟨o, ho, hd⟩ => by
    have nch : c ∉ ch := fun z => (hch c z).2.2.1 x c e rfl
    by_cases hc : c ∈ X.fs
    · obtain ⟨sl, q⟩ := slot c o (I.cne x c e) hc nch ho (I.freeC x c e)
      exact ⟨_, q, hd⟩
    · exact ⟨o, keep c o (I.cne x c e) hc nch ho (I.freeC x c e), hd⟩
  refine ⟨I.ok, I.os, hg, ⟨fun b o e n hb hx => ?_, fun b o e n hb hx => ?_, fun b o e n hx => ?_, fun b o e hx => ?_, fun b xs e => tups b xs (I.base.tups b xs e), fun b o xs e => frzs b o xs (I.base.frzs b o xs e), fun b ps e => ?_⟩, ?_, fun x c e => ?_, ?_, fun x c e => ?_, fun p hp => ?_, hok, I.len⟩
  · exact keep b o (neL b o e) hb (neC b o e hx) (I.base.keep b o e n hb hx) (I.base.free b o e n hx)
  · obtain ⟨sl, e1⟩ := I.base.slot b o e n hb hx
    obtain ⟨sl', e2⟩ := slot b _ (neL b o e) hb (neC b o e hx) e1 (I.base.free b o e n hx)
    exact ⟨sl', e2⟩
  · obtain ⟨o', e1⟩ := I.base.there b o e hx
    exact free b o' (neC b o e hx) e1 (I.base.free b o e n hx)
  · obtain ⟨o', e1⟩ := I.base.there b o e hx
    exact there b o' (neC b o e hx) e1
  · obtain ⟨m1, e1⟩ := I.base.tbls b ps e
    obtain ⟨m2, e2⟩ := tbls b _ e1
    exact ⟨m1 ++ m2, by rw [e2, Array.append_assoc]⟩
  · obtain ⟨m, hn, hl⟩ := I.loc
    refine ⟨m, ns m hn, fun i x v e1 e2 e3 => ?_⟩
    obtain ⟨u, r, l⟩ := hl i x v e1 e2 e3
    refine ⟨u, r, ?_⟩
    rcases l with l | ⟨k, c, e, z⟩
    · exact .inl l
    · exact .inr ⟨k, c, e, cellK x c e _ z⟩
  · obtain ⟨v, z⟩ := I.cell x c e
    exact ⟨v, cellK x c e v z⟩
  · obtain ⟨m, ⟨o, _, _, ho, _⟩, _⟩ := I.loc
    exact free _ o (fun z => (hch _ z).2.1 rfl) ho I.free
  · obtain ⟨v, o, ho, hd⟩ := I.cell x c e
    exact free c o (fun z => (hch c z).2.2.1 x c e rfl) ho (I.freeC x c e)
  · obtain ⟨e, n, ne, nf, d⟩ := I.pin p hp
    have nch : p.1 ∉ ch := fun z => (hch p.1 z).2.2.2 p hp rfl
    exact ⟨keep p.1 p.2 ne nf nch e n, free p.1 p.2 nch e n, ne, nf, d⟩
/-- .. where the frame's own object is kept too -/
theorem Inv.un {t' : Nat} (I : Inv X pins σ H s) (u : Un X.fs [] H H' s.heap h') (hok : HOk X.prog X.w H' h') : Inv X pins σ H' { s with heap := h', toks := t' } := by
  obtain ⟨m, ⟨o, es, ep, ho, r⟩, _⟩ := id I.loc
  obtain ⟨sl, hL⟩ := u.any ho I.free (by simp)
  exact I.step (g' := s.gens) (d' := s.drawn) (ch := []) (fun _ z => nomatch z) (fun b o _ hb _ e n => u.keep b o e n hb (by simp)) (fun b o _ hb _ e n => u.slot b o e n hb (by simp)) (fun b o _ e n => u.free b o e n (by simp)) (fun b o _ e => u.there b o e (by simp)) u.tups u.frzs u.tbls (fun m' hm => by
    obtain ⟨o', es', ep', ho', r'⟩ := hm
    rw [ho] at ho'; cases ho'
    exact ⟨_, es', ep', hL, r'⟩) hok I.bare
/-- behind a call (or a comprehension's block): the slots of this frame may have changed too, the records at ch may have turned -/
theorem Inv.call {g' : Array GenState} {t' : Nat} {d' : Drawn} {ch : List Addr} (I : Inv X pins σ H s) (u : Un (frs X.stack) ch H H' s.heap h') (hok : HOk X.prog X.w H' h') (hg : AllBare g')
    (hch : ∀ b ∈ ch, (b ∈ X.ex ∨ X.s_0.heap.objs.size ≤ b) ∧ b ≠ X.env.locals ∧ (∀ x c, X.env.cells.lookup x = some c → c ≠ b) ∧ ∀ p ∈ X.pn ++ pins, p.1 ≠ b) :
    Inv X pins σ H' { s with heap := h', gens := g', drawn := d', toks := t' } := by
  obtain ⟨m, ⟨o, es, ep, ho, r⟩, _⟩ := id I.loc
  obtain ⟨sl, hL⟩ := u.any ho I.free fun z => (hch _ z).2.1 rfl
  exact I.step (ch := ch) hch (fun b o hL hb hc e n => u.keep b o e n (fun z => (List.mem_cons.mp (I.stkSub b z)).elim hL hb) hc) (fun b o _ _ hc e n => u.any e n hc) (fun b o hc e n => u.free b o e n hc) (fun b o hc e => u.there b o e hc) u.tups u.frzs u.tbls (fun m' hm => by
    obtain ⟨o', es', ep', ho', r'⟩ := hm
    rw [ho] at ho'; cases ho'
    exact ⟨_, es', ep', hL, r'⟩) hok hg
/-- an untracked record of ours (an iterator) has turned -/
theorem Inv.turned {t' : Nat} {it : Addr} (I : Inv X pins σ H s) (k : ∀ b o, b ≠ it → s.heap.get? b = some o → h'.get? b = some o) (hn : H it = none) (hL : it ≠ X.env.locals)
    (h1 : it ∈ X.ex ∨ X.s_0.heap.objs.size ≤ it) (h2 : ∀ x c, X.env.cells.lookup x = some c → c ≠ it) (h3 : ∀ p ∈ X.pn ++ pins, p.1 ≠ it) : Inv X pins σ H { s with heap := h', toks := t' } := by
  have nit : ∀ b u, H b = some u → b ≠ it := fun b u e z => by rw [z, hn] at e; cases e
  refine I.step (g' := s.gens) (d' := s.drawn) (ch := [it]) (fun b hb => ?_) (fun b o _ _ hc e _ => k b o (fun z => hc (by simp [z])) e) (fun b o _ _ hc e _ => ⟨o.slots, k b o (fun z => hc (by simp [z])) e⟩) (fun _ _ _ _ n => n)
    (fun b o hc e => ⟨o, k b o (fun z => hc (by simp [z])) e⟩) (fun _ _ e => e) (fun _ _ _ e => e) (fun b ps e => ⟨#[], by rw [e]; simp⟩) (fun m hm => ?_) (fun b u e => ?_) I.bare
  · have e : b = it := by simpa using hb
    subst e
    exact ⟨h1, hL, h2, h3⟩
  · obtain ⟨o, es, ep, ho, r⟩ := hm
    exact ⟨o, es, ep, k _ o (Ne.symm hL) ho, r⟩
  · refine (I.hok b u e).stay (fun c v hc q => k c v ?_ q) (fun _ q => q) fun _ _ q => q
    rcases hc with z | z
    · rw [z]; exact nit b u e
    · exact nit c _ z
theorem Inv.tok (I : Inv X pins σ H s) (t : Nat) : Inv X pins σ H { s with toks := t } := I.un (h' := s.heap) (t' := t) Un.refl I.hok
/-- all objects kept -/
theorem Inv.kept {t' : Nat} (I : Inv X pins σ H s) (k : ∀ b u, s.heap.get? b = some u → h'.get? b = some u) : Inv X pins σ H { s with heap := h', toks := t' } := I.un (Un.kept k) (I.hok.kept k)
/-- a new object laid and tracked -/
theorem Inv.laid {a : Addr} {o : HO} {t' : Nat} (I : Inv X pins σ H s) (k : ∀ b u, s.heap.get? b = some u → h'.get? b = some u) (hp : s.heap.objs.size ≤ a) (new : ObjOk X.prog X.w (upd H a o) h' a o) :
    Inv X pins σ (upd H a o) { s with heap := h', toks := t' } := I.un (Un.laid k hp (I.hok.fresh hp)) (I.hok.laid k hp new)
/-- an object written -/
theorem Inv.write {x e : Addr} {o : HO} {t' : Nat} (I : Inv X pins σ H s) (mu : Mut (H x)) (he : e = x ∨ H e = some (.own x)) (k : ∀ b u, b ≠ e → s.heap.get? b = some u → h'.get? b = some u) (heo : ∃ u, h'.get? e = some u)
    (new : ObjOk X.prog X.w (upd H x o) h' x o) : Inv X pins σ (upd H x o) { s with heap := h', toks := t' } := I.un (Un.write mu he k heo) (I.hok.write mu he k heo new)
/-- forgetting slots, pins -/
theorem Inv.weak {σ' : List (Option V)} (I : Inv X pins σ H s) (hl : σ'.length = σ.length) (w : ∀ (i : Nat) v, σ'[i]? = some (some v) → σ[i]? = some (some v)) : Inv X pins σ' H s :=
  ⟨I.ok, I.os, I.bare, I.base, let ⟨m, hn, hl'⟩ := I.loc; ⟨m, hn, fun i x v e1 e2 e3 => hl' i x v e1 (w i v e2) e3⟩, I.cell, I.free, I.freeC, I.pin, I.hok, hl.trans I.len⟩
theorem Inv.pins_of {pins' : List (Addr × Obj)} (I : Inv X pins σ H s) (h : ∀ p ∈ pins', s.heap.get? p.1 = some p.2 ∧ H p.1 = none ∧ p.1 ≠ X.env.locals ∧ p.1 ∉ X.fs ∧ ∀ v, p.2.data ≠ .cell v) : Inv X pins' σ H s :=
  ⟨I.ok, I.os, I.bare, I.base, I.loc, I.cell, I.free, I.freeC, fun p hp => (List.mem_append.mp hp).elim (fun z => I.pin p (List.mem_append_left _ z)) (h p), I.hok, I.len⟩

theorem nodup_ix {N : List Str} (hN : N.Nodup) {i j : Nat} {x : Str} (a : N[i]? = some x) (b : N[j]? = some x) : i = j := by
  obtain ⟨h1, e1⟩ := List.getElem?_eq_some_iff.mp a
  obtain ⟨h2, e2⟩ := List.getElem?_eq_some_iff.mp b
  exact (List.getElem_inj hN).mp (e1.trans e2.symm)

/-- a name is stored; what changed -/
theorem store_ok2 {M : Model} {A : Around} {E : Value → Shared → Prop} {i : Nat} {x : Str} {v : V} {u : Value} {Q : Unit → Shared → Prop} (I : Inv X pins σ H s) (hN : X.N.Nodup) (hi : X.N[i]? = some x) (hx : Loc X.env.scope x) (r : RelV v u)
    (h : ∀ s', Inv X pins (σ.set i (some v)) H s' → (∃ a, Heap.SameBut a s.heap s'.heap ∧ (a = X.env.locals ∨ X.env.cells.lookup x = some a)) → Q () s') (hf : X.fn x = true ∨ X.env.scope.names.lookup x = some .local := by first | exact .inl rfl | exact .inr rfl | assumption) : wpAny M A (storeName X.env x u) Q E s := by
  obtain ⟨m, hn, hl⟩ := id I.loc
  have hcls : (X.env.scope.kind == .class || (X.env.scope.kind == .module && X.env.locals != X.env.globals)) = false := by rw [I.ok.kind]; rfl
  have hiσ : i < σ.length := by rw [I.len]; exact (List.getElem?_eq_some_iff.mp hi).1
  have cne := I.cne
  have tracked : ∀ {a : Addr} {h' : Heap}, (∃ o, s.heap.get? a = some o ∧ H a = none) → Heap.SameBut a s.heap h' → HOk X.prog X.w H h' := fun {a h'} ha hs b ob e => by
    obtain ⟨_, _, hfree⟩ := ha
    refine (I.hok b ob e).stay (fun c w' hc q => (hs.2 c ?_).trans q) (fun _ q => q) fun _ _ q => q
    rintro rfl
    rcases hc with rfl | hc
    · rw [hfree] at e; cases e
    · rw [hfree] at hc; cases hc
  rcases hx with hk | hk
  · refine wpAny_storeName_local hk hn (fun h' hn' hs => ?_) hcls
    obtain ⟨oL, _, _, hoL, _⟩ := id hn
    refine h _ ⟨I.ok, I.os, I.bare, ⟨fun b o e n hb hx => ?_, fun b o e n hb hx => ?_, I.base.free, fun b o e hx => ?_, I.base.tups, I.base.frzs, I.base.tbls⟩, ⟨_, hn', fun j y v' e1 e2 e3 => ?_⟩, fun y c e => ?_, I.free, I.freeC, fun p hp => ?_, tracked ⟨oL, hoL, I.free⟩ hs, by simpa using I.len⟩ ⟨_, hs, .inl rfl⟩
    · exact (hs.2 b (Nat.ne_of_lt (Nat.lt_of_lt_of_le (Heap.lt_size e) I.ok.above))).trans (I.base.keep b o e n hb hx)
    · obtain ⟨sl, e1⟩ := I.base.slot b o e n hb hx
      exact ⟨sl, (hs.2 b (Nat.ne_of_lt (Nat.lt_of_lt_of_le (Heap.lt_size e) I.ok.above))).trans e1⟩
    · obtain ⟨o', e1⟩ := I.base.there b o e hx
      exact ⟨o', (hs.2 b (Nat.ne_of_lt (Nat.lt_of_lt_of_le (Heap.lt_size e) I.ok.above))).trans e1⟩
    · by_cases hj : j = i
      · subst hj
        rw [hi] at e1; cases e1
        rw [List.getElem?_set_self hiσ] at e2
        cases e2
        exact ⟨u, r, .inl ⟨hk, by simp⟩⟩
      · rw [List.getElem?_set_ne (Ne.symm hj)] at e2
        obtain ⟨u', r', q⟩ := hl j y v' e1 e2 e3
        refine ⟨u', r', ?_⟩
        rcases q with ⟨k, e⟩ | ⟨k, c, e, z⟩
        · refine .inl ⟨k, ?_⟩
          have : y ≠ x := fun e => hj (nodup_ix hN e1 (e ▸ hi))
          simp [this, e]
        · exact .inr ⟨k, c, e, z.sameBut hs (cne y c e)⟩
    · obtain ⟨w', z⟩ := I.cell y c e
      exact ⟨w', z.sameBut hs (cne y c e)⟩
    · obtain ⟨e, n, ne, nf, d⟩ := I.pin p hp
      exact ⟨(hs.2 p.1 ne).trans e, n, ne, nf, d⟩
  · have hfn : X.fn x = true := by
      rcases hf with z | z
      · exact z
      · rw [z] at hk; cases hk
    obtain ⟨c, hc⟩ := I.ok.has x (.inl hk)
    obtain ⟨w', z⟩ := I.cell x c hc
    refine wpAny_storeName_cell I.ok.kind hk hc z (fun h' hc' hs => ?_)
    obtain ⟨oc, hoc, hocd⟩ := id z
    refine h { s with heap := h' } ⟨I.ok, I.os, I.bare, ⟨fun b o e n hb hx => ?_, fun b o e n hb hx => ?_, I.base.free, fun b o e hx => ?_, I.base.tups, I.base.frzs, I.base.tbls⟩, ⟨m, hn.sameBut hs (Ne.symm (cne x c hc)), fun j y v' e1 e2 e3 => ?_⟩, fun y c' e => ?_, I.free, I.freeC, fun p hp => ?_, tracked ⟨oc, hoc, I.freeC x c hc⟩ hs, by simpa using I.len⟩ ⟨c, hs, .inr hc⟩
    · exact (hs.2 b (Nat.ne_of_lt (Nat.lt_of_lt_of_le (Heap.lt_size e) (I.ok.cab x c hfn hc)))).trans (I.base.keep b o e n hb hx)
    · obtain ⟨sl, e1⟩ := I.base.slot b o e n hb hx
      exact ⟨sl, (hs.2 b (Nat.ne_of_lt (Nat.lt_of_lt_of_le (Heap.lt_size e) (I.ok.cab x c hfn hc)))).trans e1⟩
    · obtain ⟨o', e1⟩ := I.base.there b o e hx
      exact ⟨o', (hs.2 b (Nat.ne_of_lt (Nat.lt_of_lt_of_le (Heap.lt_size e) (I.ok.cab x c hfn hc)))).trans e1⟩
    · by_cases hj : j = i
      · subst hj
        rw [hi] at e1; cases e1
        rw [List.getElem?_set_self hiσ] at e2
        cases e2
        exact ⟨u, r, .inr ⟨.inl hk, c, hc, hc'⟩⟩
      · rw [List.getElem?_set_ne (Ne.symm hj)] at e2
        obtain ⟨u', r', q⟩ := hl j y v' e1 e2 e3
        refine ⟨u', r', ?_⟩
        rcases q with q | ⟨k, c', e, z'⟩
        · exact .inl q
        · refine .inr ⟨k, c', e, z'.sameBut hs ?_⟩
          rintro rfl
          exact hj (nodup_ix hN e1 (I.ok.inj _ _ _ e hc ▸ hi))
    · by_cases hcc : c' = c
      · subst hcc; exact ⟨_, hc'⟩
      · obtain ⟨w2, z2⟩ := I.cell y c' e
        exact ⟨w2, z2.sameBut hs hcc⟩
    · obtain ⟨e, n, ne, nf, d⟩ := I.pin p hp
      refine ⟨(hs.2 p.1 ?_).trans e, n, ne, nf, d⟩
      intro q
      rw [q, hoc] at e
      have q' : oc = p.2 := Option.some.inj e
      exact d w' (by rw [← q']; exact hocd)
theorem store_ok {M : Model} {A : Around} {E : Value → Shared → Prop} {i : Nat} {x : Str} {v : V} {u : Value} {Q : Unit → Shared → Prop} (I : Inv X pins σ H s) (hN : X.N.Nodup) (hi : X.N[i]? = some x) (hx : Loc X.env.scope x) (r : RelV v u)
    (h : ∀ s', Inv X pins (σ.set i (some v)) H s' → Q () s') (hf : X.fn x = true ∨ X.env.scope.names.lookup x = some .local := by first | exact .inl rfl | exact .inr rfl | assumption) : wpAny M A (storeName X.env x u) Q E s :=
  store_ok2 I hN hi hx r (fun s' I' _ => h s' I') hf
/-- behind a call or a block, the state as it is -/
theorem Inv.call' {s' : Shared} {ch : List Addr} (I : Inv X pins σ H s) (ho : s'.os = s.os) (u : Un (frs X.stack) ch H H' s.heap s'.heap) (hok : HOk X.prog X.w H' s'.heap) (hg : AllBare s'.gens)
    (hch : ∀ b ∈ ch, (b ∈ X.ex ∨ X.s_0.heap.objs.size ≤ b) ∧ b ≠ X.env.locals ∧ (∀ x c, X.env.cells.lookup x = some c → c ≠ b) ∧ ∀ p ∈ X.pn ++ pins, p.1 ≠ b) : Inv X pins σ H' s' := by
  obtain ⟨h', g', d', t', o'⟩ := s'
  have e : o' = s.os := ho
  subst e
  exact I.call (g' := g') (t' := t') (d' := d') u hok hg hch
end

/-! ### the judgements -/
/-- an exception: its class, its own dict's address (where it has one), the abstract heap behind it -/
abbrev XK := Value → Option Addr → Hp → Prop
abbrev St := List (Option V)
abbrev VK := V → Hp → Prop
/-- an expression's reading; a test's; an argument list's -/
abbrev TE := St → Hp → VK → Prop
abbrev TT := St → Hp → (Bool → Hp → Prop) → Prop
abbrev TA := St → Hp → (List V → Hp → Prop) → Prop
/-- what is wanted behind a statement -/
structure Ends where
  nx : St → Hp → Prop
  rt : VK
  bk : St → Hp → Prop := fun _ _ => False
  ct : St → Hp → Prop := fun _ _ => False
abbrev TS := Ends → St → Hp → Prop

def EP (X : Cx) (pins : List (Addr × Obj)) (σ : St) (Q : VK) (u : Value) (s' : Shared) : Prop := ∃ v H', Inv X pins σ H' s' ∧ RelV v u ∧ Q v H'
def TP (X : Cx) (pins : List (Addr × Obj)) (σ : St) (Q : Bool → Hp → Prop) (b : Bool) (s' : Shared) : Prop := ∃ H', Inv X pins σ H' s' ∧ Q b H'
def AP (X : Cx) (pins : List (Addr × Obj)) (σ : St) (Q : List V → Hp → Prop) (us : List Value) (s' : Shared) : Prop := ∃ vs H', Inv X pins σ H' s' ∧ Vals vs us ∧ Q vs H'
def SP (X : Cx) (pins : List (Addr × Obj)) (D : Ends) (f : Flow) (s' : Shared) : Prop :=
  match f with
  | .next => ∃ σ' H', Inv X pins σ' H' s' ∧ D.nx σ' H'
  | .brk => ∃ σ' H', Inv X pins σ' H' s' ∧ D.bk σ' H'
  | .cont => ∃ σ' H', Inv X pins σ' H' s' ∧ D.ct σ' H'
  | .ret u => ∃ v σ' H', Inv X pins σ' H' s' ∧ RelV v u ∧ D.rt v H'

def PE (X : Cx) (e : Expr) (t : TE) : Prop :=
  ∀ (pins : List (Addr × Obj)) (s : Shared) (σ : St) (H : Hp) (Q : VK), Inv X pins σ H s → t σ H Q → wpAny (model X.prog X.w) X.A (eval e X.env) (EP X pins σ Q) X.xe s
def PT (X : Cx) (e : Expr) (t : TT) : Prop :=
  ∀ (pins : List (Addr × Obj)) (s : Shared) (σ : St) (H : Hp) (Q : Bool → Hp → Prop), Inv X pins σ H s → t σ H Q → wpAny (model X.prog X.w) X.A (isTrue e X.env (eval e X.env)) (TP X pins σ Q) X.xe s
/-- a test whatever its 'whole' is (and, or) -/
def PW (X : Cx) (e : Expr) (t : TT) : Prop :=
  ∀ (whole : Sem Value) (pins : List (Addr × Obj)) (s : Shared) (σ : St) (H : Hp) (Q : Bool → Hp → Prop), Inv X pins σ H s → t σ H Q → wpAny (model X.prog X.w) X.A (isTrue e X.env whole) (TP X pins σ Q) X.xe s
theorem PW.pt {X : Cx} {e : Expr} {t : TT} (h : PW X e t) : PT X e t := h _
/-- an argument list (no star), from the left -/
def PA (X : Cx) (es : List Expr) (t : TA) : Prop :=
  ∀ (pos : Pos) (pins : List (Addr × Obj)) (s : Shared) (σ : St) (H : Hp) (Q : List V → Hp → Prop), Inv X pins σ H s → t σ H Q → wpAny (model X.prog X.w) X.A (spliced (backTo pos (starEach es X.env))) (AP X pins σ Q) X.xe s
def PS (X : Cx) (st : Stmt) (t : TS) : Prop :=
  ∀ (pins : List (Addr × Obj)) (s : Shared) (σ : St) (H : Hp) (D : Ends), Inv X pins σ H s → t D σ H → wpAny (model X.prog X.w) X.A (exec st X.env) (SP X pins D) X.xe s
def PSs (X : Cx) (st : List Stmt) (t : TS) : Prop :=
  ∀ (pins : List (Addr × Obj)) (s : Shared) (σ : St) (H : Hp) (D : Ends), Inv X pins σ H s → t D σ H → wpAny (model X.prog X.w) X.A (execs st X.env) (SP X pins D) X.xe s
/-- weaken the end -/
theorem thn {α : Type} {t : Sem α} {Q Q' : α → Shared → Prop} {M : Model} {A : Around} {E : Value → Shared → Prop} {s : Shared} (h : wpAny M A t Q E s) (hQ : ∀ a s, Q a s → Q' a s) : wpAny M A t Q' E s := wpAny_mono h hQ fun _ _ x => x
end L2

namespace L2
open PySem PySem.Spec PyProof.Rows
section
variable {X : Cx}

/-- two expressions in a row -/
theorem bin {a b : Expr} {ta tb : TE} (ha : PE X a ta) (hb : PE X b tb) {pins : List (Addr × Obj)} {s : Shared} {σ : St} {H : Hp} {R : V → V → Hp → Prop} (I : Inv X pins σ H s) (h : ta σ H fun x H1 => tb σ H1 fun y H2 => R x y H2)
    {α : Type} {Q : α → Shared → Prop} {f : Value → Value → Sem α}
    (hf : ∀ v u s2 x y H2, Inv X pins σ H2 s2 → RelV x v → RelV y u → R x y H2 → wpAny (model X.prog X.w) X.A (f v u) Q X.xe s2) :
    wpAny (model X.prog X.w) X.A (eval a X.env) (fun v s₁ => wpAny (model X.prog X.w) X.A (eval b X.env) (fun u s₂ => wpAny (model X.prog X.w) X.A (f v u) Q X.xe s₂) X.xe s₁) X.xe s := by
  refine thn (ha pins s σ H _ I h) fun v s1 ⟨x, H1, I1, r1, q1⟩ => ?_
  refine thn (hb pins s1 σ H1 _ I1 q1) fun u s2 ⟨y, H2, I2, r2, q2⟩ => ?_
  exact hf v u s2 x y H2 I2 r1 r2 q2

/-! ### names and constants -/
def tVar (i : Nat) : TE := fun σ H Q => ∃ v, σ[i]? = some (some v) ∧ Q v H
def tC (v : V) : TE := fun _ H Q => Q v H
theorem pe_var {i : Nat} {x : Str} {pos : Pos} (hN : X.N[i]? = some x) (hv : Vis X.env.scope x) (hd : (x == ("__debug__" : Str)) = false := by decide) (hcd : (x == ("__classdict__" : Str)) = false := by decide) : PE X (.Name x pos) (tVar i) := by
  intro pins s σ H Q I h
  obtain ⟨v, e, h⟩ := h
  obtain ⟨m, hn, hl⟩ := I.loc
  obtain ⟨u, r, l⟩ := hl i x v hN e hv
  have fin : EP X pins σ Q u s := ⟨v, H, I, r, h⟩
  rcases l with ⟨hk, hm⟩ | ⟨hk, c, hc, hcell⟩
  · exact wpAny_Name (wpAny_loadName_local I.ok.kind hk hn hm fin) hd
  · rcases hk with hk | hk
    · exact wpAny_Name (wpAny_loadName_cell I.ok.kind hk hc hcell fin) hd
    · exact wpAny_Name (wpAny_loadName_free I.ok.kind hk hc hcell fin hcd) hd
theorem pe_int {i j pos} : PE X (.Constant (.int i) j pos) (tC (.int i)) := fun _ _ _ H _ I h => wpAny_Constant_int ⟨.int i, H, I.tok _, ⟨_, rfl⟩, h⟩
theorem pe_bl {b j pos} : PE X (.Constant (.bool b) j pos) (tC (.bl b)) := fun _ _ _ H _ I h => Constant_bool ⟨.bl b, H, I, rfl, h⟩
theorem pe_non {j pos} : PE X (.Constant .none j pos) (tC .non) := fun _ _ _ H _ I h => Constant_none ⟨.non, H, I, rfl, h⟩
theorem pe_str {x j pos} : PE X (.Constant (.str x) j pos) (tC (.str x)) := fun _ _ _ H _ I h => Calls.Constant_str ⟨.str x, H, I.tok _, ⟨_, rfl⟩, h⟩

/-- a global name of the def -/
def Gl (X : Cx) (x : Str) : Prop := X.env.kindOf x = some .globalImplicit
theorem ld_glob {E : Value → Shared → Prop} {pins : List (Addr × Obj)} {s : Shared} {σ : St} {H : Hp} {x : Str} {u : Value} {pos : Pos} {Q : Value → Shared → Prop} (I : Inv X pins σ H s) (hg : Gl X x) (hm : X.mg x = some u) (h : Q u s)
    (hd : (x == ("__debug__" : Str)) = false := by decide) : wpAny (model X.prog X.w) X.A (eval (.Name x pos) X.env) Q E s :=
  Calls.Name_function_global I.ok.kind hg (Calls.loadGlobal_global (by rw [I.ok.glob]; exact I.mod.glob.keeps I.bk) hm h) hd
theorem ld_blt {E : Value → Shared → Prop} {pins : List (Addr × Obj)} {s : Shared} {σ : St} {H : Hp} {x : Str} {u : Value} {pos : Pos} {Q : Value → Shared → Prop} (I : Inv X pins σ H s) (hg : Gl X x) (hm : X.mg x = none) (hv : bootBuiltins x = some u) (h : Q u s)
    (hn : x ≠ "__name__" := by decide) (hd : (x == ("__debug__" : Str)) = false := by decide) : wpAny (model X.prog X.w) X.A (eval (.Name x pos) X.env) Q E s := by
  obtain ⟨mb, h1, h2⟩ := I.mod.blt
  exact Calls.Name_function_global I.ok.kind hg (Calls.loadGlobal_builtin (by rw [I.ok.glob]; exact I.mod.glob.keeps I.bk) hm (by rw [I.ok.blt]; exact h1.keeps I.bk) ((h2 x hn).trans hv) h) hd
/-- a module's constant, a class, a function, as a value -/
theorem pe_glob {x : Str} {v : V} {u : Value} {pos : Pos} (hg : Gl X x) (hm : X.mg x = some u) (r : RelV v u) (hd : (x == ("__debug__" : Str)) = false := by decide) : PE X (.Name x pos) (tC v) :=
  fun _ _ _ H _ I h => ld_glob I hg hm ⟨v, H, I, r, h⟩ hd
theorem pe_bltn {x : Str} {v : V} {u : Value} {pos : Pos} (hg : Gl X x) (hm : X.mg x = none) (hv : bootBuiltins x = some u) (r : RelV v u) (hn : x ≠ "__name__" := by decide) (hd : (x == ("__debug__" : Str)) = false := by decide) : PE X (.Name x pos) (tC v) :=
  fun _ _ _ H _ I h => ld_blt I hg hm hv ⟨v, H, I, r, h⟩ hn hd

/-! ### arithmetic -/
variable {a b : Expr} {ta tb : TE} {pos : Pos}
/-! ### comparisons -/
/-! ### and, or, not -/
variable {tA tB' : TT} {rest : List Expr}
def tAnd (t u : TT) : TT := fun σ H Q => t σ H fun c H1 => if c = true then u σ H1 Q else Q false H1
def tOr (t u : TT) : TT := fun σ H Q => t σ H fun c H1 => if c = true then Q true H1 else u σ H1 Q
theorem pw_and1 (ha : PT X a tA) : PW X (.BoolOp .And [a] pos) tA := by
  intro wh pins s σ H Q I h
  refine isTrue_and (thn (ha pins s σ H Q I h) fun c s1 e => ?_)
  cases c with
  | true => exact isTrue_and_nil e
  | false => exact e
theorem pw_or1 (ha : PT X a tA) : PW X (.BoolOp .Or [a] pos) tA := by
  intro wh pins s σ H Q I h
  refine isTrue_or (thn (ha pins s σ H Q I h) fun c s1 e => ?_)
  cases c with
  | false => exact isTrue_or_nil e
  | true => exact e
theorem pw_and (ha : PT X a tA) (hb : PW X (.BoolOp .And (b :: rest) pos) tB') : PW X (.BoolOp .And (a :: b :: rest) pos) (tAnd tA tB') := by
  intro wh pins s σ H Q I h
  refine isTrue_and (thn (ha pins s σ H _ I h) fun c s1 ⟨H1, I1, q1⟩ => ?_)
  cases c with
  | true => exact hb wh pins s1 σ H1 Q I1 q1
  | false => exact ⟨H1, I1, q1⟩
theorem pw_or (ha : PT X a tA) (hb : PW X (.BoolOp .Or (b :: rest) pos) tB') : PW X (.BoolOp .Or (a :: b :: rest) pos) (tOr tA tB') := by
  intro wh pins s σ H Q I h
  refine isTrue_or (thn (ha pins s σ H _ I h) fun c s1 ⟨H1, I1, q1⟩ => ?_)
  cases c with
  | true => exact ⟨H1, I1, q1⟩
  | false => exact hb wh pins s1 σ H1 Q I1 q1
def tNotV (ta : TE) : TE := fun σ H Q => ta σ H fun x H1 => ∃ c, x = .bl c ∧ Q (.bl (!c)) H1
theorem pe_not (ha : PE X a ta) : PE X (.UnaryOp .Not a pos) (tNotV ta) := by
  intro pins s σ H Q I h
  refine UnaryOp_ (thn (ha pins s σ H _ I h) fun v s1 ⟨x, H1, I1, r1, q1⟩ => ?_)
  obtain ⟨c, rfl, q1⟩ := q1
  cases r1
  exact not_of (wpAny_truthy_bool ⟨.bl (!c), H1, I1, rfl, q1⟩)
/-- a if t else b -/
def tIf (t : TT) (ta tb : TE) : TE := fun σ H Q => t σ H fun c H1 => if c = true then ta σ H1 Q else tb σ H1 Q
theorem pe_ifExp {c : Expr} (hc : PT X c tA) (ha : PE X a ta) (hb : PE X b tb) : PE X (.IfExp c a b pos) (tIf tA ta tb) := by
  intro pins s σ H Q I h
  refine wpAny_IfExp (thn (hc pins s σ H _ I h) fun d s1 ⟨H1, I1, q1⟩ => ?_)
  cases d with
  | true => exact ha pins s1 σ H1 Q I1 q1
  | false => exact hb pins s1 σ H1 Q I1 q1
end
end L2

namespace L2
open PySem PySem.Spec PyProof.Rows

/-! ### a list, a tuple that is read: tracked, frozen, or an object of the module -/
def SqL (K : PySem.W.Frag) (H : Hp) (a : Addr) (xs : List V) : Prop :=
  Rd H a (.lst xs) ∨
    ∃ (o : Obj) (its : Array Value) (n : Nat), K.lookup a = some o ∧ o.cls = .type "list" ∧ o.dict = none ∧ o.data = .seq its n ∧ its.size ≤ sizeLine ∧ Vals xs its.toList
def SqT (K : PySem.W.Frag) (H : Hp) (a : Addr) (xs : List V) : Prop :=
  Rd H a (.tup xs) ∨
    ∃ (o : Obj) (its : Array Value) (n : Nat), K.lookup a = some o ∧ o.cls = .type "tuple" ∧ o.data = .seq its n ∧ its.size ≤ sizeLine ∧ Vals xs its.toList
def absV : Value → Option V
  | .none => some .non
  | .bool b => some (.bl b)
  | .int i _ => some (.int i)
  | .str x _ => some (.str x)
  | .bytes b _ => some (.byt b)
  | .float b _ => some (.flt b)
  | .ref a => some (.ref a)
  | .type n => some (.ty n)
  | _ => none
theorem RelV.abs {x : V} {u : Value} (r : RelV x u) : absV u = some x := by
  cases x with
  | non => cases r; rfl
  | bl _ => cases r; rfl
  | int _ => obtain ⟨t, rfl⟩ := r; rfl
  | str _ => obtain ⟨t, rfl⟩ := r; rfl
  | byt _ => obtain ⟨t, rfl⟩ := r; rfl
  | flt _ => obtain ⟨t, rfl⟩ := r; rfl
  | ref _ => cases r; rfl
  | ty _ => cases r; rfl
theorem RelV.inj {x y : V} {u : Value} (r : RelV x u) (q : RelV y u) : x = y := Option.some.inj (r.abs.symm.trans q.abs)
theorem Vals.inj : ∀ {xs ys : List V} {us : List Value}, Vals xs us → Vals ys us → xs = ys
  | _, _, _, .nil, .nil => rfl
  | _, _, _, .cons r t, .cons r' t' => by rw [r.inj r', Vals.inj t t']
section
variable {X : Cx} {pins : List (Addr × Obj)} {σ : St} {H : Hp} {s : Shared} {a : Addr} {xs ys : List V}
theorem SqL.of {K : PySem.W.Frag} (h : H a = some (.lst xs)) : SqL K H a xs := .inl (.inl h)
theorem SqT.of {K : PySem.W.Frag} (h : H a = some (.tup xs)) : SqT K H a xs := .inl (.inl h)
theorem Inv.list (I : Inv X pins σ H s) (h : SqL X.K H a xs) : ∃ its : List Value, Vals xs its ∧ PlainL s.heap a its.toArray ∧ xs.length ≤ sizeLine := by
  rcases h with h | ⟨o, its, n, hk, hc, hd, hs, hz, r⟩
  · obtain ⟨z, its, n, r, e⟩ := h.ok I.hok
    exact ⟨its, r, ⟨_, n, e, rfl, rfl, rfl⟩, z⟩
  · refine ⟨its.toList, r, ⟨o, n, I.kIn a o hk, hc, hd, by simpa using hs⟩, ?_⟩
    have e := r.length
    simp only [Array.length_toList] at e
    omega
theorem Inv.tuple (I : Inv X pins σ H s) (h : SqT X.K H a xs) : ∃ its : List Value, Vals xs its ∧ IsTup s.heap a its.toArray ∧ xs.length ≤ sizeLine := by
  rcases h with h | ⟨o, its, n, hk, hc, hs, hz, r⟩
  · obtain ⟨z, its, r, p⟩ := h.ok I.hok
    exact ⟨its, r, p, z⟩
  · refine ⟨its.toList, r, ⟨o, I.kIn a o hk, hc, n, by simpa using hs⟩, ?_⟩
    have e := r.length
    simp only [Array.length_toList] at e
    omega
theorem Inv.list_inj (I : Inv X pins σ H s) (h : SqL X.K H a xs) (h' : SqL X.K H a ys) : xs = ys := by
  obtain ⟨its, r, ⟨o, n, e, _, _, d⟩, _⟩ := I.list h
  obtain ⟨its', r', ⟨o', n', e', _, _, d'⟩, _⟩ := I.list h'
  rw [e] at e'; cases e'
  rw [d] at d'
  injection d' with d1 _
  have : its = its' := by simpa using congrArg Array.toList d1
  subst this
  exact r.inj r'
theorem Inv.tuple_inj (I : Inv X pins σ H s) (h : SqT X.K H a xs) (h' : SqT X.K H a ys) : xs = ys := by
  obtain ⟨its, r, ⟨o, e, _, n, d⟩, _⟩ := I.tuple h
  obtain ⟨its', r', ⟨o', e', _, n', d'⟩, _⟩ := I.tuple h'
  rw [e] at e'; cases e'
  rw [d] at d'
  injection d' with d1 _
  have : its = its' := by simpa using congrArg Array.toList d1
  subst this
  exact r.inj r'
end

/-! ### another wish about exceptions -/
abbrev Cx.wish (X : Cx) (E : Value → Shared → Prop) : Cx := { X with xe := E }
/-- no exception leaves -/
abbrev Cx.nox (X : Cx) : Cx := X.wish fun _ _ => False
theorem Cx.Ok.wish {X : Cx} (ok : X.Ok) (E : Value → Shared → Prop) : (X.wish E).Ok :=
  ⟨ok.mod, ok.kind, ok.glob, ok.blt, ok.above, ok.inj, ok.has, ok.cab, ok.hd, ok.frames, ok.stk, ok.exf, ok.bs, ok.bsz, ok.noex, ok.exfs, ok.funs, ok.frf⟩
theorem Cx.Ok.unwish {X : Cx} {E : Value → Shared → Prop} (ok : (X.wish E).Ok) : X.Ok :=
  ⟨ok.mod, ok.kind, ok.glob, ok.blt, ok.above, ok.inj, ok.has, ok.cab, ok.hd, ok.frames, ok.stk, ok.exf, ok.bs, ok.bsz, ok.noex, ok.exfs, ok.funs, ok.frf⟩
section
variable {X : Cx} {pins : List (Addr × Obj)} {σ : St} {H : Hp} {s : Shared} {E : Value → Shared → Prop}
theorem Inv.wish (I : Inv X pins σ H s) (E : Value → Shared → Prop) : Inv (X.wish E) pins σ H s := ⟨I.ok.wish E, I.os, I.bare, I.base, I.loc, I.cell, I.free, I.freeC, I.pin, I.hok, I.len⟩
theorem Inv.unwish (I : Inv (X.wish E) pins σ H s) : Inv X pins σ H s := ⟨I.ok.unwish, I.os, I.bare, I.base, I.loc, I.cell, I.free, I.freeC, I.pin, I.hok, I.len⟩
theorem SP.unwish {D : Ends} {f : Flow} {s' : Shared} (h : SP (X.wish E) pins D f s') : SP X pins D f s' := by
  cases f with
  | next => obtain ⟨σ', H', I, q⟩ := h; exact ⟨σ', H', I.unwish, q⟩
  | brk => obtain ⟨σ', H', I, q⟩ := h; exact ⟨σ', H', I.unwish, q⟩
  | cont => obtain ⟨σ', H', I, q⟩ := h; exact ⟨σ', H', I.unwish, q⟩
  | ret u => obtain ⟨v, σ', H', I, r, q⟩ := h; exact ⟨v, σ', H', I.unwish, r, q⟩
theorem PE.nox {e : Expr} {t : TE} (h : PE X.nox e t) : PE X e t := fun pins s σ H Q I hw =>
  wpAny_mono (h pins s σ H Q (I.wish _) hw) (fun _ _ ⟨v, H', I', r, q⟩ => ⟨v, H', I'.unwish, r, q⟩) fun _ _ z => False.elim z
theorem PT.nox {e : Expr} {t : TT} (h : PT X.nox e t) : PT X e t := fun pins s σ H Q I hw =>
  wpAny_mono (h pins s σ H Q (I.wish _) hw) (fun _ _ ⟨H', I', q⟩ => ⟨H', I'.unwish, q⟩) fun _ _ z => False.elim z
theorem PSs.nox {st : List Stmt} {t : TS} (h : PSs X.nox st t) : PSs X st t := fun pins s σ H D I hw =>
  wpAny_mono (h pins s σ H D (I.wish _) hw) (fun _ _ q => q.unwish) fun _ _ z => False.elim z
end

/-! ### blocks and small statements -/
section
variable {X : Cx} {st : Stmt} {rest : List Stmt} {t u : TS} {e : Expr} {te : TE} {pos : Pos}
def tNext : TS := fun D σ H => D.nx σ H
def tSeq (t u : TS) : TS := fun D σ H => t { D with nx := u D } σ H
theorem pss_nil : PSs X [] tNext := fun _ _ σ H _ I h => wpAny_execs_nil ⟨σ, H, I, h⟩
theorem pss_cons (h1 : PS X st t) (h2 : PSs X rest u) : PSs X (st :: rest) (tSeq t u) := by
  intro pins s σ H D I h
  refine wpAny_execs_cons (thn (h1 pins s σ H { D with nx := u D } I h) fun f s1 q => ?_)
  cases f with
  | next =>
    obtain ⟨σ', H', I', q⟩ := q
    exact h2 pins s1 σ' H' D I' q
  | ret v => exact q
  | brk => exact q
  | cont => exact q
theorem pss_one (h1 : PS X st t) : PSs X [st] t := by
  intro pins s σ H D I h
  refine wpAny_execs_cons (thn (h1 pins s σ H D I h) fun f s1 q => ?_)
  cases f with
  | next => exact wpAny_execs_nil q
  | ret v => exact q
  | brk => exact q
  | cont => exact q
/-- in a def's body nothing is shown -/
theorem Inv.quiet {pins : List (Addr × Obj)} {σ : St} {H : Hp} {s : Shared} (I : Inv X pins σ H s) : interactive X.env = false := by simp [interactive, I.ok.kind]
/-- an expression whose value is dropped -/
def tDrop (te : TE) : TS := fun D σ H => te σ H fun _ H1 => D.nx σ H1
theorem ps_expr (he : PE X e te) (hs : swapsWith e none pos.line X.env = pure false := by rfl) : PS X (.Expr e pos) (tDrop te) := by
  intro pins s σ H D I h
  exact wpAny_Expr_any (thn (he pins s σ H _ I h) fun v s1 ⟨x, H1, I1, r1, q1⟩ => ⟨σ, H1, I1, q1⟩) I.quiet hs
def tRet (te : TE) : TS := fun D σ H => te σ H D.rt
theorem ps_ret (he : PE X e te) : PS X (.Return (some e) pos) (tRet te) := by
  intro pins s σ H D I h
  exact wpAny_Return_some (thn (he pins s σ H _ I h) fun v s1 ⟨x, H1, I1, r1, q1⟩ => ⟨x, σ, H1, I1, r1, q1⟩)
def tIfS (c : TT) (t u : TS) : TS := fun D σ H => c σ H fun b H1 => if b = true then t D σ H1 else u D σ H1
theorem ps_if {c : Expr} {a b : List Stmt} {tc : TT} (hc : PT X c tc) (ha : PSs X a t) (hb : PSs X b u) : PS X (.If c a b pos) (tIfS tc t u) := by
  intro pins s σ H D I h
  refine wpAny_If (thn (hc pins s σ H _ I h) fun d s1 ⟨H1, I1, q1⟩ => ?_)
  cases d with
  | true => exact ha pins s1 σ H1 D I1 q1
  | false => exact hb pins s1 σ H1 D I1 q1
end

/-! ### targets -/
abbrev TG := V → St → Hp → (St → Hp → Prop) → Prop
abbrev TGs := List V → St → Hp → (St → Hp → Prop) → Prop
def PG (X : Cx) (target : Expr) (t : TG) : Prop :=
  ∀ (pins : List (Addr × Obj)) (s : Shared) (σ : St) (H : Hp) (v : V) (u : Value) (Q : St → Hp → Prop), Inv X pins σ H s → RelV v u → t v σ H Q →
    wpAny (model X.prog X.w) X.A (assign target X.env u) (fun _ s' => ∃ σ' H', Inv X pins σ' H' s' ∧ Q σ' H') X.xe s
/-- several targets, one after another -/
def PGs (X : Cx) (ts : List Expr) (t : TGs) : Prop :=
  ∀ (pins : List (Addr × Obj)) (s : Shared) (σ : St) (H : Hp) (vs : List V) (us : List Value) (Q : St → Hp → Prop), Inv X pins σ H s → Vals vs us → t vs σ H Q →
    wpAny (model X.prog X.w) X.A (assignInOrder ((assignEach ts X.env).map (·.2)) us) (fun _ s' => ∃ σ' H', Inv X pins σ' H' s' ∧ Q σ' H') X.xe s
/-- o[i] = v, by values -/
abbrev TSet := V → V → V → Hp → (Hp → Prop) → Prop
def PSet (X : Cx) (t : TSet) : Prop :=
  ∀ (pins : List (Addr × Obj)) (s : Shared) (σ : St) (H : Hp) (o i v : V) (ov iv u : Value) (Q : Hp → Prop), Inv X pins σ H s → RelV o ov → RelV i iv → RelV v u → t o i v H Q →
    wpAny (model X.prog X.w) X.A (setItem ov iv u) (fun _ s' => ∃ H', Inv X pins σ H' s' ∧ Q H') X.xe s
section
variable {X : Cx} {pos : Pos}
def gName (i : Nat) : TG := fun v σ H Q => Q (σ.set i (some v)) H
theorem pg_name {i : Nat} {x : Str} (hN : X.N.Nodup) (hi : X.N[i]? = some x) (hx : Loc X.env.scope x) (hf : X.fn x = true ∨ X.env.scope.names.lookup x = some .local := by first | exact .inl rfl | exact .inr rfl | assumption) : PG X (.Name x pos) (gName i) := by
  intro pins s σ H v u Q I r h
  exact wpAny_assign_Name (store_ok I hN hi hx r (fun s' I' => ⟨_, H, I', h⟩) hf)
def gNil : TGs := fun vs σ H Q => vs = [] ∧ Q σ H
def gCons (t : TG) (u : TGs) : TGs := fun vs σ H Q => ∃ v r, vs = v :: r ∧ t v σ H fun σ' H' => u r σ' H' Q
theorem pgs_nil : PGs X [] gNil := by
  intro pins s σ H vs us Q I r h
  obtain ⟨e, h⟩ := h
  subst e
  cases r
  exact assignInOrder_nil ⟨σ, H, I, h⟩
theorem pgs_cons {e : Expr} {es : List Expr} {t : TG} {u : TGs} (h1 : PG X e t) (h2 : PGs X es u)
    (hs : (assignEach (e :: es) X.env).map (·.2) = assign e X.env :: (assignEach es X.env).map (·.2) := by rfl) : PGs X (e :: es) (gCons t u) := by
  intro pins s σ H vs us Q I r h
  obtain ⟨v, vr, e1, h⟩ := h
  subst e1
  cases r with
  | cons r rr =>
    rw [hs]
    refine assignInOrder_cons (thn (h1 pins s σ H _ _ _ I r h) fun _ s1 ⟨σ1, H1, I1, q1⟩ => ?_)
    exact h2 pins s1 σ1 H1 _ _ Q I1 rr q1
/-- (a, b, ..) = a tuple of that length -/
def gTup (K : PySem.W.Frag) (n : Nat) (t : TGs) : TG := fun v σ H Q => ∃ a xs, v = .ref a ∧ SqT K H a xs ∧ xs.length = n ∧ t xs σ H Q
theorem pg_tup {es : List Expr} {k : Nat} {t : TGs} {n : Nat} (hc : X.calm = true) (h : PGs X es t)
    (hn : (assignEach es X.env).length = n := by rfl) (hst : (assignEach es X.env).findIdx? (·.1) = none := by rfl) : PG X (.Tuple es k pos) (gTup X.K n t) := by
  intro pins s σ H v u Q I r hw
  obtain ⟨a, xs, e1, hq, hl, hw⟩ := hw
  subst e1
  cases r
  obtain ⟨its, rv, ht, hz⟩ := I.tuple hq
  refine assign_Tuple_tuple (I.ok.hd hc) ht (by simp [hn, ← hl, rv.length]) hst fun h' hx => ?_
  have I1 : Inv X pins σ H { s with heap := h' } := I.kept (t' := s.toks) fun b o e => hx b o (Nat.ne_of_lt (Heap.lt_size e)) e
  exact h pins _ σ H xs _ Q I1 (by simpa using rv) hw
/-- o[i] = .. -/
def gSub (to ti : TE) (t : TSet) : TG := fun v σ H Q => to σ H fun o H1 => ti σ H1 fun i H2 => t o i v H2 fun H3 => Q σ H3
theorem pg_sub {o i : Expr} {to ti : TE} {t : TSet} (ho : PE X o to) (hi : PE X i ti) (hs : PSet X t)
    (ha : ∀ v, assign (.Subscript o i pos) X.env v = (do
      let ov ← holding [v] (eval o X.env)
      let iv ← holding [v, ov] (eval i X.env)
      standAt pos
      holding [v, ov, iv] (setItem ov iv v)
      release [v, ov, iv] []) := by intro _; rfl) : PG X (.Subscript o i pos) (gSub to ti t) := by
  intro pins s σ H v u Q I r h
  rw [ha]
  refine wpAny_bind (wpAny_holding (thn (ho pins s σ H _ I h) fun ov s1 ⟨x, H1, I1, r1, q1⟩ => ?_))
  refine wpAny_bind (wpAny_holding (thn (hi pins s1 σ H1 _ I1 q1) fun iv s2 ⟨y, H2, I2, r2, q2⟩ => ?_))
  refine wpAny_bind (wpAny_standAt (wpAny_bind (wpAny_holding (thn (hs pins s2 σ H2 x y v ov iv u _ I2 r1 r2 r q2) fun _ s3 ⟨H3, I3, q3⟩ => ?_))))
  exact wpAny_release ⟨σ, H3, I3, q3⟩
/-- target = value -/
def tAsg (te : TE) (g : TG) : TS := fun D σ H => te σ H fun x H1 => g x σ H1 D.nx
theorem ps_asg {tg e : Expr} {te : TE} {g : TG} (he : PE X e te) (hg : PG X tg g) (hs : swapsWithSole [tg] e pos.line X.env = pure false := by rfl) (hw : swappedStores [tg] e X.env = pure none := by rfl)
    (h1 : (assignEach [tg] X.env).map (·.2) = [assign tg X.env] := by rfl) : PS X (.Assign [tg] e pos) (tAsg te g) := by
  intro pins s σ H D I h
  refine wpAny_Assign_stores (thn (he pins s σ H _ I h) fun v s1 ⟨x, H1, I1, r1, q1⟩ => ?_) hs hw
  rw [h1]
  exact thn (hg pins s1 σ H1 x v _ I1 r1 q1) fun _ s2 q => q
/-- name = value -/
theorem ps_set {i : Nat} {x : Str} {e : Expr} {te : TE} {pos' : Pos} (hN : X.N.Nodup) (hi : X.N[i]? = some x) (hx : Loc X.env.scope x) (he : PE X e te) (hs : swapsWith e (some (.Name x pos')) pos.line X.env = pure false := by rfl) (hf : X.fn x = true ∨ X.env.scope.names.lookup x = some .local := by first | exact .inl rfl | exact .inr rfl | assumption) :
    PS X (.Assign [.Name x pos'] e pos) (tAsg te (gName i)) := by
  intro pins s σ H D I h
  refine wpAny_Assign_Name (thn (he pins s σ H _ I h) fun v s1 ⟨y, H1, I1, r1, q1⟩ => ?_) hs
  exact store_ok I1 hN hi hx r1 (fun s2 I2 => ⟨_, H1, I2, q1⟩) hf
end

/-! ### while -/
section
variable {X : Cx} {pos : Pos}
end

/-! ### what a loop or a comprehension walks -/
/-- at turn i: it yields x (the heap may grow), or it stops -/
structure It where
  go : Nat → Hp → Prop
  yld : Nat → Hp → V → Hp → Prop
  stop : Nat → Hp → Prop
/-- the iterator's own objects may turn: they are not the frame's, not pinned, younger than the entry (or a comprehension's own) -/
def FpOk (X : Cx) (pins : List (Addr × Obj)) (H : Hp) (b : Addr) : Prop :=
  H b = none ∧ b ≠ X.env.locals ∧ b ∉ X.fs ∧ (b ∈ X.ex ∨ X.s_0.heap.objs.size ≤ b) ∧ (∀ x c, X.env.cells.lookup x = some c → c ≠ b) ∧ ∀ p ∈ X.pn ++ pins, p.1 ≠ b
theorem Inv.fpOk {X : Cx} {pins : List (Addr × Obj)} {σ : St} {H H' : Hp} {s : Shared} {b : Addr} (I : Inv X pins σ H s) (hb : s.heap.objs.size ≤ b) (hn : H' b = none) : FpOk X pins H' b := by
  refine ⟨hn, Nat.ne_of_gt (Nat.lt_of_lt_of_le I.lt hb), I.nofs hb, .inr (Nat.le_trans I.sz hb), fun x c e z => ?_, fun p hp z => ?_⟩
  · obtain ⟨v, q⟩ := I.cell x c e
    exact absurd (Nat.lt_of_lt_of_le q.lt (by rw [z]; exact hb)) (Nat.lt_irrefl _)
  · exact absurd (Nat.lt_of_lt_of_le (Heap.lt_size (I.pin p hp).1) (by rw [z]; exact hb)) (Nat.lt_irrefl _)
structure Turn (P : Program) (w : World) (K : PySem.W.Frag) (tg : Expr) (J : It) (fp : List Addr) (it : Addr) (tn : Nat → Heap → Prop) : Prop where
  mem : it ∈ fp
  obj : ∀ i h, tn i h → ∀ b ∈ fp, ∃ o, h.get? b = some o ∧ ∀ v, o.data ≠ .cell v
  keep : ∀ i h h', tn i h → (∀ b ∈ fp, ∀ o, h.get? b = some o → h'.get? b = some o) → tn i h'
  item : ∀ (X : Cx), X.prog = P → X.w = w → X.K = K → X.calm = true → ∀ (i : Nat) (pins : List (Addr × Obj)) (s : Shared) (σ : St) (H : Hp) (E : Value → Shared → Prop), Inv X pins σ H s → (∀ b ∈ fp, FpOk X pins H b) → tn i s.heap → J.go i H →
    wpAny (model P w) X.A (pyNext (.ref it)) (fun r s1 => ∃ u, r = some u ∧
      wpAny (model P w) X.A (letOwnedTupleGo tg (.ref it) u) (fun _ s2 => ∃ x H', Inv X pins σ H' s2 ∧ RelV x u ∧ J.yld i H x H' ∧ tn (i + 1) s2.heap ∧ ∀ b ∈ fp, H' b = none) E s1) E s
  done : ∀ (X : Cx), X.prog = P → X.w = w → X.K = K → X.calm = true → ∀ (i : Nat) (pins : List (Addr × Obj)) (s : Shared) (σ : St) (H : Hp) (E : Value → Shared → Prop), Inv X pins σ H s → (∀ b ∈ fp, FpOk X pins H b) → tn i s.heap → J.stop i H →
    wpAny (model P w) X.A (pyNext (.ref it)) (fun r s1 => r = none ∧ Inv X pins σ H s1) E s
  self : ∀ (A : Around) (i : Nat) (s : Shared) (Q : Value → Shared → Prop) (E : Value → Shared → Prop), tn i s.heap → Q (.ref it) s → wpAny (model P w) A (pyIter (.ref it)) Q E s
abbrev TI := St → Hp → (It → Hp → Prop) → Prop
/-- an iterator has come -/
def PIE (X : Cx) (pins : List (Addr × Obj)) (σ : St) (tg : Expr) (R : It → Hp → Prop) (itv : Value) (s2 : Shared) : Prop :=
  ∃ (it : Addr) (fp : List Addr) (tn : Nat → Heap → Prop) (J : It) (H' : Hp), itv = .ref it ∧ Inv X pins σ H' s2 ∧ Turn X.prog X.w X.K tg J fp it tn ∧ tn 0 s2.heap ∧ (∀ b ∈ fp, FpOk X pins H' b) ∧ R J H'
def PI (X : Cx) (tg iter : Expr) (wi : TI) : Prop :=
  ∀ (pins : List (Addr × Obj)) (s : Shared) (σ : St) (H : Hp) (R : It → Hp → Prop), Inv X pins σ H s → wi σ H R →
    wpAny (model X.prog X.w) X.A (eval iter X.env) (fun v s1 => wpAny (model X.prog X.w) X.A (pyIter v) (PIE X pins σ tg R) X.xe s1) X.xe s

/-- the step ahead of the store is nothing for an iterator that keeps no tuple -/
theorem go_of {M : Model} {A : Around} {E : Value → Shared → Prop} {s : Shared} {tg : Expr} {it : Addr} {u : Value} {o : Obj} {n : String} {vs : Array Value} {Q : Unit → Shared → Prop} (ho : s.heap.get? it = some o) (hc : o.cls = .type n) (hd : o.data = .fields vs)
    (hn : ["enumerate", "zip", "dict_itemiterator", "dict_reverseitemiterator", "odict_iterator", "itertools.zip_longest", "itertools.pairwise"].contains n = false) (hQ : Q () s) : wpAny M A (letOwnedTupleGo tg (.ref it) u) Q E s := by
  unfold letOwnedTupleGo
  cases tg <;> first
    | exact wpAny_pure hQ
    | (cases u <;> first
        | exact wpAny_pure hQ
        | (refine wpAny_bind (wpAny_load ho ?_)
           rw [hc, hd]
           show wpAny M A (if (["enumerate", "zip", "dict_itemiterator", "dict_reverseitemiterator", "odict_iterator", "itertools.zip_longest", "itertools.pairwise"].contains n && vs[0]? == some (rawInt _)) = true then _ else _) Q E s
           rw [if_neg (by intro h; rw [hn, Bool.false_and] at h; cases h)]
           exact wpAny_pure hQ))

/-- the list at a, as it stands at each turn (a loop may append to it) -/
def Itl (K : PySem.W.Frag) (a : Addr) : It :=
  ⟨fun i H => ∃ xs x, SqL K H a xs ∧ xs[i]? = some x, fun i H x H' => H' = H ∧ ∀ xs, SqL K H a xs → xs[i]? = some x, fun i H => ∃ xs, SqL K H a xs ∧ xs.length ≤ i⟩
def Itt (K : PySem.W.Frag) (a : Addr) : It :=
  ⟨fun i H => ∃ xs x, SqT K H a xs ∧ xs[i]? = some x, fun i H x H' => H' = H ∧ ∀ xs, SqT K H a xs → xs[i]? = some x, fun i H => ∃ xs, SqT K H a xs ∧ xs.length ≤ i⟩
/-- lo, lo + 1, .. (n of them) -/
def Itr (lo : Int) (n : Nat) : It := ⟨fun i _ => i < n, fun i H x H' => H' = H ∧ x = .int (lo + i), fun i _ => n ≤ i⟩
theorem turn_list {P : Program} {w : World} {K : PySem.W.Frag} {tg : Expr} (a it : Addr) : Turn P w K tg (Itl K a) [it] it (fun i h => h.IsListIter it a i) where
  mem := by simp
  obj := fun i h st b hb => by
    have e : b = it := by simpa using hb
    subst e
    obtain ⟨o, e, c, d⟩ := st
    exact ⟨o, e, fun v z => by rw [d] at z; cases z⟩
  keep := fun i h h' st k => st.at fun o e => k it (by simp) o e
  item := by
    intro X hP hw hK hc i pins s σ H E I hf st hg
    subst hP hw hK
    obtain ⟨xs, x, hq, hx⟩ := hg
    obtain ⟨its, rv, p, hz⟩ := I.list hq
    obtain ⟨u, hu, ru⟩ := rv.get hx
    obtain ⟨f0, f1, f2, f3, f4, f5⟩ := hf it (by simp)
    refine wpAny_pyNext_list_item st p.isList (x := u) (by simpa using hu) fun h' st' sb => ?_
    have I1 : Inv X pins σ H { s with heap := h' } := I.turned (t' := s.toks) (fun b o hb e => (sb.2 b hb).trans e) f0 f1 f3 f4 f5
    obtain ⟨o, e, c, d⟩ := id st'
    exact ⟨u, rfl, go_of (s := { s with heap := h' }) e c d (by decide) ⟨x, H, I1, ru, ⟨rfl, fun ys hy => by rw [I.list_inj hy hq]; exact hx⟩, st', fun b hb => (hf b hb).1⟩⟩
  done := by
    intro X hP hw hK hc i pins s σ H E I hf st hg
    subst hP hw hK
    obtain ⟨xs, hq, hx⟩ := hg
    obtain ⟨its, rv, p, hz⟩ := I.list hq
    obtain ⟨f0, f1, f2, f3, f4, f5⟩ := hf it (by simp)
    have hl := rv.length
    exact wpAny_pyNext_list_end (I.ok.hd hc) st p.isList (by simp; omega) fun h' eb => ⟨rfl, I.turned (t' := s.toks) (fun b o hb e => eb b o hb e) f0 f1 f3 f4 f5⟩
  self := fun _ _ _ _ _ st h => wpAny_pyIter_listiter st h
theorem turn_tuple {P : Program} {w : World} {K : PySem.W.Frag} {tg : Expr} (a it : Addr) : Turn P w K tg (Itt K a) [it] it (fun i h => h.IsTupleIter it a i) where
  mem := by simp
  obj := fun i h st b hb => by
    have e : b = it := by simpa using hb
    subst e
    obtain ⟨o, e, c, d⟩ := st
    exact ⟨o, e, fun v z => by rw [d] at z; cases z⟩
  keep := fun i h h' st k => st.at fun o e => k it (by simp) o e
  item := by
    intro X hP hw hK hc i pins s σ H E I hf st hg
    subst hP hw hK
    obtain ⟨xs, x, hq, hx⟩ := hg
    obtain ⟨its, rv, p, hz⟩ := I.tuple hq
    obtain ⟨u, hu, ru⟩ := rv.get hx
    obtain ⟨f0, f1, f2, f3, f4, f5⟩ := hf it (by simp)
    refine wpAny_pyNext_tuple_item st (show s.heap.IsTuple a its.toArray from p) (x := u) (by simpa using hu) fun h' st' sb => ?_
    have I1 : Inv X pins σ H { s with heap := h' } := I.turned (t' := s.toks) (fun b o hb e => (sb.2 b hb).trans e) f0 f1 f3 f4 f5
    obtain ⟨o, e, c, d⟩ := id st'
    exact ⟨u, rfl, go_of (s := { s with heap := h' }) e c d (by decide) ⟨x, H, I1, ru, ⟨rfl, fun ys hy => by rw [I.tuple_inj hy hq]; exact hx⟩, st', fun b hb => (hf b hb).1⟩⟩
  done := by
    intro X hP hw hK hc i pins s σ H E I hf st hg
    subst hP hw hK
    obtain ⟨xs, hq, hx⟩ := hg
    obtain ⟨its, rv, p, hz⟩ := I.tuple hq
    obtain ⟨f0, f1, f2, f3, f4, f5⟩ := hf it (by simp)
    have hl := rv.length
    exact wpAny_pyNext_tuple_end (I.ok.hd hc) st (show s.heap.IsTuple a its.toArray from p) (by simp; omega) fun h' eb => ⟨rfl, I.turned (t' := s.toks) (fun b o hb e => eb b o hb e) f0 f1 f3 f4 f5⟩
  self := fun _ _ _ _ _ st h => wpAny_pyIter_tupleiter st h
theorem turn_range {P : Program} {w : World} {K : PySem.W.Frag} {tg : Expr} (it : Addr) (lo : Int) (n : Nat) : Turn P w K tg (Itr lo n) [it] it (fun i h => IsRangeIter h it (lo + (i : Nat) * 1) ((n : Int) - (i : Nat)) 1) where
  mem := by simp
  obj := fun i h st b hb => by
    have e : b = it := by simpa using hb
    subst e
    exact ⟨_, st, fun v z => by
      have z' : Data.fields _ = Data.cell v := z
      cases z'⟩
  keep := fun i h h' st k => k it (by simp) _ st
  item := by
    intro X hP hw hK hc i pins s σ H E I hf st hg
    subst hP hw hK
    obtain ⟨f0, f1, f2, f3, f4, f5⟩ := hf it (by simp)
    have W := Walks.range (prog := X.prog) (w := X.w) (I.ok.hd hc) it lo 1 n
    refine W.item i s _ _ hg st fun v h' tk hv st' kk => ?_
    obtain ⟨t, rfl⟩ := hv
    have I1 : Inv X pins σ H { s with heap := h', toks := tk } := I.turned (fun b o hb e => kk b o (by simpa using hb) e) f0 f1 f3 f4 f5
    refine ⟨_, rfl, go_of (s := { s with heap := h', toks := tk }) (n := "range_iterator") st' rfl rfl (by decide) ⟨.int (lo + i), H, I1, ⟨t, ?_⟩, ⟨rfl, rfl⟩, st', fun b hb => (hf b hb).1⟩⟩
    rw [Int.mul_one]
  done := by
    intro X hP hw hK hc i pins s σ H E I hf st hg
    subst hP hw hK
    obtain ⟨f0, f1, f2, f3, f4, f5⟩ := hf it (by simp)
    exact wpAny_pyNext_range_end (I.ok.hd hc) st (by have : n ≤ i := hg; omega) fun h' eb => ⟨rfl, I.turned (t' := s.toks) (fun b o hb e => eb b o hb e) f0 f1 f3 f4 f5⟩
  self := fun _ _ _ _ _ st h => wpAny_pyIter_rangeiter st h
end L2

namespace L2
open PySem PySem.Spec PyProof.Rows
section
variable {X : Cx} {tg : Expr}
/-- a range object just made, walked -/
theorem range_it {pins : List (Addr × Obj)} {σ : St} {H : Hp} {s : Shared} {R : It → Hp → Prop} {E : Value → Shared → Prop} {lo hi : Int} {t u v : Tok} {tk : Nat} (I : Inv X pins σ H s) (h1 : -(2 ^ 62) ≤ lo) (h2 : lo < 2 ^ 62) (h3 : -(2 ^ 62) ≤ hi) (h4 : hi < 2 ^ 62)
    (q : R (Itr lo (hi - lo).toNat) H) : wpAny (model X.prog X.w) X.A (pyIter (.ref s.heap.objs.size)) (PIE X pins σ tg R) E { s with heap := s.heap.push { cls := .type "range", data := .fields #[.int lo t, .int hi u, .int 1 v] }, toks := tk } := by
  refine wpAny_pyIter_range (IsRange.new ..) (small_one h1 h2 h3 h4) ?_
  have I1 : Inv X pins σ H { s with heap := s.heap.push { cls := .type "range", data := .fields #[.int lo t, .int hi u, .int 1 v] }, toks := tk } := I.kept fun b o e => Heap.get?_push_of_some _ e
  refine ⟨(s.heap.push { cls := .type "range", data := .fields #[.int lo t, .int hi u, .int 1 v] }).objs.size, [(s.heap.push { cls := .type "range", data := .fields #[.int lo t, .int hi u, .int 1 v] }).objs.size], _, _, H, rfl,
    I1.kept (t' := tk) fun b o e => Heap.get?_push_of_some _ e, turn_range _ lo (hi - lo).toNat, ?_, fun b hb => ?_, q⟩
  · have e1 : lo + ((0 : Nat) : Int) * 1 = lo := by simp
    have e2 : (((hi - lo).toNat : Nat) : Int) - ((0 : Nat) : Int) = Builtin.Range.rangeSize lo hi 1 := by rw [rangeSize_one]; split <;> omega
    show IsRangeIter _ _ (lo + ((0 : Nat) : Int) * 1) ((((hi - lo).toNat : Nat) : Int) - ((0 : Nat) : Int)) 1
    rw [e1, e2]
    exact Heap.get?_push_size _ rfl
  · have e : b = (s.heap.push { cls := .type "range", data := .fields #[.int lo t, .int hi u, .int 1 v] }).objs.size := by simpa using hb
    subst e
    exact I1.fpOk (Nat.le_refl _) (I1.hok.fresh (Nat.le_refl _))
def iRng1 (ta : TA) : TI := fun σ H R => ta σ H fun vs H1 => ∃ j : Int, vs = [.int j] ∧ -(2 ^ 62) ≤ j ∧ j < 2 ^ 62 ∧ R (Itr 0 j.toNat) H1
theorem pi_range1 {a : Expr} {ta : TA} {p pos : Pos} (hg : Gl X "range") (hm : X.mg "range" = none) (ha : PA X [a] ta) (hs : starEach [a] X.env = [(false, eval a X.env)] := by rfl) : PI X tg (.Call (.Name "range" p) [a] [] pos) (iRng1 ta) := by
  intro pins s σ H R I h
  refine Call_ (ld_blt I hg hm boot_range (PyProof.Rows.callWith_type1 (thn (ha pos pins s σ H _ I h) fun us s1 ⟨vs, H1, I1, r1, q1⟩ => ?_) hs rfl))
  obtain ⟨j, e, q1, q2, q⟩ := q1
  subst e
  cases r1 with
  | cons r rr =>
    cases rr
    obtain ⟨t, rfl⟩ := r
    exact call_range_1 (range_it I1 (by omega) (by omega) q1 q2 (by simpa using q))
/-! ### for -/
/-- W: the invariant by the turn and a measure; N: what the body is to reach -/
def tFor (wi : TI) (g : TG) (tb : TS) : TS := fun D σ H => wi σ H fun J H1 => ∃ W : Nat → Nat → St → Hp → Prop, (∃ m, W 0 m σ H1) ∧ ∀ i m σ H, W i m σ H →
  (J.stop i H ∧ D.nx σ H) ∨ (J.go i H ∧ ∃ N : St → Hp → Prop, (∀ σ' H', N σ' H' → ∃ m', m' < m ∧ W (i + 1) m' σ' H') ∧ ∀ x H', J.yld i H x H' → g x σ H' fun σ2 H2 => tb { D with nx := N, ct := N, bk := D.nx } σ2 H2)
/-- the records at fp as they stand -/
def pinsAt (fp : List Addr) (h : Heap) : List (Addr × Obj) := fp.filterMap fun b => (h.get? b).map fun o => (b, o)
theorem mem_pinsAt {fp : List Addr} {h : Heap} {b : Addr} {o : Obj} (hb : b ∈ fp) (e : h.get? b = some o) : (b, o) ∈ pinsAt fp h := List.mem_filterMap.mpr ⟨b, hb, by rw [e]; rfl⟩
theorem of_pinsAt {fp : List Addr} {h : Heap} {p : Addr × Obj} (hp : p ∈ pinsAt fp h) : p.1 ∈ fp ∧ h.get? p.1 = some p.2 := by
  obtain ⟨b, hb, e⟩ := List.mem_filterMap.mp hp
  cases q : h.get? b with
  | none => rw [q] at e; cases e
  | some o =>
    rw [q] at e
    have e' : (b, o) = p := Option.some.inj e
    subst e'
    exact ⟨hb, q⟩
theorem Inv.pinned {pins : List (Addr × Obj)} {σ : St} {H : Hp} {s : Shared} {fp : List Addr} (I : Inv X pins σ H s) (hf : ∀ b ∈ fp, FpOk X pins H b) (ho : ∀ b ∈ fp, ∃ o, s.heap.get? b = some o ∧ ∀ v, o.data ≠ .cell v) : Inv X (pins ++ pinsAt fp s.heap) σ H s :=
  I.pins_of fun p hp => (List.mem_append.mp hp).elim (fun z => I.pin p (List.mem_append_right _ z)) fun z => by
    obtain ⟨hb, e⟩ := of_pinsAt z
    obtain ⟨f0, f1, f2, _⟩ := hf p.1 hb
    obtain ⟨o, e', d⟩ := ho p.1 hb
    rw [e] at e'; cases e'
    exact ⟨e, f0, f1, f2, d⟩
theorem Inv.unpinned {pins pl : List (Addr × Obj)} {σ : St} {H : Hp} {s : Shared} (I : Inv X (pins ++ pl) σ H s) : Inv X pins σ H s := I.pins_of fun p hp => I.pin p (List.mem_append_right _ (List.mem_append_left _ hp))
theorem ps_for {iter : Expr} {body : List Stmt} {wi : TI} {g : TG} {tb : TS} {pos : Pos} (hp : PassesOwn (model X.prog X.w) X.A X.env X.xe) (hc : X.calm = true) (hi : PI X tg iter wi) (hg : PG X tg g) (hb : PSs X body tb)
    (hs : ∀ x, foldedSetIterable iter X.env x = pure x := by intro _; rfl) : PS X (.For tg iter body [] pos) (tFor wi g tb) := by
  intro pins s σ H D I h
  refine wpAny_For (thn (hi pins s σ H _ I h) fun v s1 h1 => thn h1 fun itv s2 h2 => ?_) hs
  obtain ⟨it, fp, tn, J, H2, e, I2, T, st2, f2, W, ⟨m0, w0⟩, turn⟩ := h2
  subst e
  -- what stays true of the iterator's objects through the loop
  have stat : ∀ {H' : Hp}, (∀ b ∈ fp, H' b = none) → ∀ b ∈ fp, FpOk X pins H' b := fun hn b hb => ⟨hn b hb, (f2 b hb).2⟩
  refine codeAny_forLoop_any (fun n s' => ∃ i σ' H', Inv X pins σ' H' s' ∧ tn i s'.heap ∧ (∀ b ∈ fp, H' b = none) ∧ W i n σ' H') ?_ m0 ⟨0, σ, H2, I2, st2, fun b hb => (f2 b hb).1, w0⟩
  rintro n s3 ⟨i, σ3, H3, I3, st3, fr3, w3⟩
  rcases turn i n σ3 H3 w3 with ⟨stop, qn⟩ | ⟨go, N, hN, step⟩
  · refine wpAny_passesOwn hp (thn (T.done X rfl rfl rfl hc i pins s3 σ3 H3 X.xe I3 (stat fr3) st3 stop) fun r s4 ⟨hr, I4⟩ => ?_)
    subst hr
    exact wpAny_execs_nil ⟨σ3, H3, I4, qn⟩
  · refine wpAny_passesOwn hp (thn (T.item X rfl rfl rfl hc i pins s3 σ3 H3 X.xe I3 (stat fr3) st3 go) fun r s4 ⟨u, hr, h4⟩ => ?_)
    subst hr
    refine wpAny_passesOwn hp (thn h4 fun _ s5 ⟨x, H5, I5, r5, y5, st5, fr5⟩ => ?_)
    have I5' := I5.pinned (stat fr5) (T.obj _ _ st5)
    refine wpAny_passesOwn hp (thn (hg _ s5 σ3 H5 x u _ I5' r5 (step x H5 y5)) fun _ s6 ⟨σ6, H6, I6, q6⟩ => ?_)
    refine wpAny_passesOwn hp (thn (hb _ s6 σ6 H6 _ I6 q6) fun f s7 q7 => ?_)
    have again : ∀ {σ7 : St} {H7 : Hp}, Inv X (pins ++ pinsAt fp s5.heap) σ7 H7 s7 → N σ7 H7 → ∃ m, m < n ∧ ∃ i σ' H', Inv X pins σ' H' s7 ∧ tn i s7.heap ∧ (∀ b ∈ fp, H' b = none) ∧ W i m σ' H' := fun {σ7 H7} I7 n7 => by
      obtain ⟨m', hm, w7⟩ := hN σ7 H7 n7
      refine ⟨m', hm, i + 1, σ7, H7, I7.unpinned, T.keep _ _ _ st5 fun b hb o e => (I7.pin (b, o) (List.mem_append_right _ (List.mem_append_right _ (mem_pinsAt hb e)))).1, fun b hb => ?_, w7⟩
      obtain ⟨o, e, d⟩ := T.obj _ _ st5 b hb
      exact (I7.pin (b, o) (List.mem_append_right _ (List.mem_append_right _ (mem_pinsAt hb e)))).2.1
    cases f with
    | next => obtain ⟨σ7, H7, I7, n7⟩ := q7; exact again I7 n7
    | cont => obtain ⟨σ7, H7, I7, n7⟩ := q7; exact again I7 n7
    | brk => obtain ⟨σ7, H7, I7, q7⟩ := q7; exact ⟨σ7, H7, I7.unpinned, q7⟩
    | ret v => obtain ⟨x7, σ7, H7, I7, r7, q7⟩ := q7; exact ⟨x7, σ7, H7, I7.unpinned, r7, q7⟩
end

/-! ### the forms one uses -/
end L2

namespace L2
open PySem PySem.Spec PyProof.Rows

abbrev R2 := V → V → Hp → VK → Prop
/-- a two-place operation on values: f is binaryOp op, inplaceOp op or compareOp op -/
def OpR (X : Cx) (f : Value → Value → Sem Value) (r : R2) : Prop :=
  ∀ (pins : List (Addr × Obj)) (s : Shared) (σ : St) (H : Hp) (x y : V) (v u : Value) (Q : VK), Inv X pins σ H s → RelV x v → RelV y u → r x y H Q →
    wpAny (model X.prog X.w) X.A (f v u) (EP X pins σ Q) X.xe s
/-- a call of a value that is known (a builtin, a type) with values -/
def CallR (X : Cx) (f : Value) (r : List V → Hp → VK → Prop) : Prop :=
  ∀ (pins : List (Addr × Obj)) (s : Shared) (σ : St) (H : Hp) (xs : List V) (us : List Value) (Q : VK), Inv X pins σ H s → Vals xs us → r xs H Q →
    wpAny (model X.prog X.w) X.A (call f us) (EP X pins σ Q) X.xe s
/-- a value's truth -/
def TruR (X : Cx) (r : V → Hp → (Bool → Hp → Prop) → Prop) : Prop :=
  ∀ (pins : List (Addr × Obj)) (s : Shared) (σ : St) (H : Hp) (x : V) (v : Value) (Q : Bool → Hp → Prop), Inv X pins σ H s → RelV x v → r x H Q →
    wpAny (model X.prog X.w) X.A (truthy v) (TP X pins σ Q) X.xe s

def tOp (r : R2) (ta tb : TE) : TE := fun σ H Q => ta σ H fun x H1 => tb σ H1 fun y H2 => r x y H2 Q
/-- ints in, under C, and a value out -/
def rI (C : Int → Int → Prop) (g : Int → Int → V) : R2 := fun x y H Q => ∃ i j, x = .int i ∧ y = .int j ∧ C i j ∧ Q (g i j) H
def rI0 (g : Int → Int → V) : R2 := fun x y H Q => ∃ i j, x = .int i ∧ y = .int j ∧ Q (g i j) H
section
variable {X : Cx} {a b c : Expr} {ta tb tc : TE} {pos : Pos}

theorem binT (ha : PE X a ta) (hb : PE X b tb) {pins : List (Addr × Obj)} {s : Shared} {σ : St} {H : Hp} {R : V → V → Hp → Prop} (I : Inv X pins σ H s)
    (h : ta σ H fun x H1 => tb σ H1 fun y H2 => R x y H2) {Q : Value → Shared → Prop} {f : Value → Value → Sem Value}
    (hf : ∀ v u s2 x y H2, Inv X pins σ H2 s2 → RelV x v → RelV y u → R x y H2 → wpAny (model X.prog X.w) X.A (f v u) Q X.xe s2) :
    wpAny (model X.prog X.w) X.A (eval a X.env) (fun v s₁ => wpAny (model X.prog X.w) X.A (eval b X.env) (fun u s₂ => wpAny (model X.prog X.w) X.A (f v u) Q X.xe s₂) X.xe s₁) X.xe s := by
  refine thn (ha pins s σ H _ I h) fun v s1 ⟨x, H1, I1, r1, q1⟩ => ?_
  refine thn (hb pins s1 σ H1 _ I1 q1) fun u s2 ⟨y, H2, I2, r2, q2⟩ => ?_
  exact hf v u s2 x y H2 I2 r1 r2 q2

theorem pe_op {op : Operator} {r : R2} (ho : OpR X (binaryOp op) r) (ha : PE X a ta) (hb : PE X b tb) : PE X (.BinOp a op b pos) (tOp r ta tb) := by
  intro pins s σ H Q I h
  exact wpAny_BinOp (binT ha hb I h fun v u s2 x y H2 I2 rx ry q => ho pins s2 σ H2 x y v u Q I2 rx ry q)
/-! ### ints -/
theorem opI {f : Value → Value → Sem Value} {C : Int → Int → Prop} {g : Int → Int → Int}
    (rule : ∀ (i j : Int) (t u : Tok) (s : Shared) (Q : Value → Shared → Prop) (E : Value → Shared → Prop), C i j → Q (.int (g i j) s.toks) { s with toks := s.toks + 1 } → wpAny (model X.prog X.w) X.A (f (.int i t) (.int j u)) Q E s) :
    OpR X f (rI C fun i j => .int (g i j)) := by
  intro pins s σ H x y v u Q I rx ry h
  obtain ⟨i, j, rfl, rfl, hc, q⟩ := h
  obtain ⟨t, rfl⟩ := rx
  obtain ⟨t', rfl⟩ := ry
  exact rule i j t t' s _ _ hc ⟨.int (g i j), H, I.tok _, ⟨_, rfl⟩, q⟩
theorem opI0 {f : Value → Value → Sem Value} {g : Int → Int → Int}
    (rule : ∀ (i j : Int) (t u : Tok) (s : Shared) (Q : Value → Shared → Prop) (E : Value → Shared → Prop), Q (.int (g i j) s.toks) { s with toks := s.toks + 1 } → wpAny (model X.prog X.w) X.A (f (.int i t) (.int j u)) Q E s) :
    OpR X f (rI0 fun i j => .int (g i j)) := by
  intro pins s σ H x y v u Q I rx ry h
  obtain ⟨i, j, rfl, rfl, q⟩ := h
  obtain ⟨t, rfl⟩ := rx
  obtain ⟨t', rfl⟩ := ry
  exact rule i j t t' s _ _ ⟨.int (g i j), H, I.tok _, ⟨_, rfl⟩, q⟩
theorem opB0 {f : Value → Value → Sem Value} {g : Int → Int → Bool}
    (rule : ∀ (i j : Int) (t u : Tok) (s : Shared) (Q : Value → Shared → Prop) (E : Value → Shared → Prop), Q (.bool (g i j)) s → wpAny (model X.prog X.w) X.A (f (.int i t) (.int j u)) Q E s) :
    OpR X f (rI0 fun i j => .bl (g i j)) := by
  intro pins s σ H x y v u Q I rx ry h
  obtain ⟨i, j, rfl, rfl, q⟩ := h
  obtain ⟨t, rfl⟩ := rx
  obtain ⟨t', rfl⟩ := ry
  exact rule i j t t' s _ _ ⟨.bl (g i j), H, I, rfl, q⟩

def CDiv (i j : Int) : Prop := 0 < j ∧ j < 1073741824
def CPow (i j : Int) : Prop := 0 ≤ j ∧ j ≤ 1000000 ∧ i.natAbs < 2 ^ 64
def CMul (i j : Int) : Prop := (-(2 ^ 64) < i ∧ i < 2 ^ 64) ∨ (-(2 ^ 64) < j ∧ j < 2 ^ 64)
theorem CMul.ok {i j : Int} (h : CMul i j) : IntMulOk i j := by
  rcases h with ⟨h1, h2⟩ | ⟨h1, h2⟩
  · exact .of_left (intBits_le_64 h1 h2)
  · exact .of_right (intBits_le_64 h1 h2)
theorem two_pow_nn (k : Nat) : (0 : Int) ≤ 2 ^ k := by
  rw [two_pow_cast]
  exact Int.natCast_nonneg _

theorem op_add : OpR X (binaryOp .Add) (rI0 fun i j => .int (i + j)) := opI0 fun _ _ _ _ _ _ _ q => add_int q
theorem op_sub : OpR X (binaryOp .Sub) (rI0 fun i j => .int (i - j)) := opI0 fun _ _ _ _ _ _ _ q => sub_int q
theorem op_mul : OpR X (binaryOp .Mult) (rI CMul fun i j => .int (i * j)) := opI fun _ _ _ _ _ _ _ hc q => mul_int q hc.ok
/-- // by a positive divisor -/
theorem op_fdiv : OpR X (binaryOp .FloorDiv) (rI CDiv fun i j => .int (i / j)) := opI fun i j _ _ _ _ _ hc q => by
  have h1 : (0 : Int) < j := hc.1
  have h2 : j < 1073741824 := hc.2
  exact floordiv_int (by omega) (by rw [Int.fdiv_eq_ediv_of_nonneg i (by omega)]; exact q) (.inl (PyProof.noPylong_small (by omega)))
/-- % by a positive divisor of any size -/
theorem op_mod : OpR X (binaryOp .Mod) (rI (fun _ j => 0 < j) fun i j => .int (i % j)) := opI fun i j _ _ _ _ _ hc q => by
  have h1 : (0 : Int) < j := hc
  exact mod_int' (by omega) (by rw [Int.fmod_eq_emod_of_nonneg i (by omega)]; exact q)
theorem op_pow : OpR X (binaryOp .Pow) (rI CPow fun i j => .int (i ^ j.toNat)) := opI fun _ _ _ _ _ _ _ hc q => pow_int_small hc.1 hc.2.1 hc.2.2 q
theorem op_shl : OpR X (binaryOp .LShift) (rI CPow fun i j => .int (i * 2 ^ j.toNat)) := opI fun _ _ _ _ _ _ _ hc q => lshift_int_small hc.1 hc.2.1 hc.2.2 q
theorem op_shr : OpR X (binaryOp .RShift) (rI (fun _ j => 0 ≤ j) fun i j => .int (i / 2 ^ j.toNat)) := opI fun i j _ _ _ _ _ hc q =>
  rshift_int hc (by rw [Int.fdiv_eq_ediv_of_nonneg i (two_pow_nn _)]; exact q)
theorem op_and : OpR X (binaryOp .BitAnd) (rI0 fun i j => .int (Builtin.bitAnd i j)) := opI0 fun _ _ _ _ _ _ _ q => and_int q
/-! ### bools among ints: n += (a < b) -/
end

/-! ### comparisons -/
/-- the scalars that == tells apart as data does -/
def scal : V → V → Bool
  | .non, .non => true | .non, .int _ => true | .int _, .non => true | .non, .bl _ => true | .bl _, .non => true | .non, .str _ => true | .str _, .non => true
  | .int _, .int _ => true | .bl _, .bl _ => true | .str _, .str _ => true | .byt _, .byt _ => true
  | .int _, .str _ => true | .str _, .int _ => true | .bl _, .str _ => true | .str _, .bl _ => true
  | _, _ => false
def rEq : R2 := fun x y H Q => scal x y = true ∧ Q (.bl (decide (x = y))) H
def rNe : R2 := fun x y H Q => scal x y = true ∧ Q (.bl (!decide (x = y))) H

theorem dec_int {i j : Int} : decide (V.int i = V.int j) = (i == j) := by
  rw [Bool.eq_iff_iff]
  simp
theorem dec_bl {i j : Bool} : decide (V.bl i = V.bl j) = (i == j) := by
  rw [Bool.eq_iff_iff]
  simp
theorem dec_str {i j : Str} : decide (V.str i = V.str j) = (i == j) := by
  rw [Bool.eq_iff_iff]
  simp
theorem dec_byt {i j : Array UInt8} : decide (V.byt i = V.byt j) = (i.toList == j.toList) := by
  rw [Bool.eq_iff_iff]
  cases i
  cases j
  simp

section
variable {X : Cx} {a b c : Expr} {ta tb tc : TE} {pos : Pos}
theorem fin_bl {pins : List (Addr × Obj)} {σ : St} {H : Hp} {s : Shared} {Q : VK} {k k' : Bool} (I : Inv X pins σ H s) (q : Q (.bl k) H) (e : k = k') : EP X pins σ Q (.bool k') s := by
  subst e
  exact ⟨.bl k, H, I, rfl, q⟩
theorem op_eq : OpR X (compareOp .Eq) rEq := by
  intro pins s σ H x y v u Q I rx ry h
  obtain ⟨hs, q⟩ := h
  cases x with
  | non =>
    cases rx
    cases y with
    | non => cases ry; exact PySem.EqNone.eq_none_none (fin_bl I q (by simp))
    | bl j => cases ry; exact PySem.EqNone.eq_none_bool (fin_bl I q (by simp))
    | int j => obtain ⟨t', rfl⟩ := ry; exact PySem.EqNone.eq_none_int (fin_bl I q (by simp))
    | str j => obtain ⟨t', rfl⟩ := ry; exact PySem.EqNone.eq_none_str (fin_bl I q (by simp))
    | _ => exact absurd (show false = true from hs) Bool.false_ne_true
  | bl i =>
    cases rx
    cases y with
    | non => cases ry; exact PySem.EqNone.eq_bool_none (fin_bl I q (by simp))
    | bl j => cases ry; exact eq_bool (fin_bl I q dec_bl)
    | str j => obtain ⟨t', rfl⟩ := ry; exact PySem.EqMixed.eq_bool_str (fin_bl I q (by simp))
    | _ => exact absurd (show false = true from hs) Bool.false_ne_true
  | int i =>
    obtain ⟨t, rfl⟩ := rx
    cases y with
    | non => cases ry; exact PySem.EqNone.eq_int_none (fin_bl I q (by simp))
    | int j => obtain ⟨t', rfl⟩ := ry; exact eq_int (fin_bl I q dec_int)
    | str j => obtain ⟨t', rfl⟩ := ry; exact PySem.EqMixed.eq_int_str (fin_bl I q (by simp))
    | _ => exact absurd (show false = true from hs) Bool.false_ne_true
  | str i =>
    obtain ⟨t, rfl⟩ := rx
    cases y with
    | non => cases ry; exact PySem.EqNone.eq_str_none (fin_bl I q (by simp))
    | bl j => cases ry; exact PySem.EqMixed.eq_str_bool (fin_bl I q (by simp))
    | int j => obtain ⟨t', rfl⟩ := ry; exact PySem.EqMixed.eq_str_int (fin_bl I q (by simp))
    | str j => obtain ⟨t', rfl⟩ := ry; exact eq_str (fin_bl I q dec_str)
    | _ => exact absurd (show false = true from hs) Bool.false_ne_true
  | byt i =>
    obtain ⟨t, rfl⟩ := rx
    cases y with
    | byt j => obtain ⟨t', rfl⟩ := ry; exact PySem.W.eq_bytes (fin_bl I q dec_byt)
    | _ => exact absurd (show false = true from hs) Bool.false_ne_true
  | _ => cases y <;> exact absurd (show false = true from hs) Bool.false_ne_true
theorem op_ne : OpR X (compareOp .NotEq) rNe := by
  intro pins s σ H x y v u Q I rx ry h
  obtain ⟨hs, q⟩ := h
  cases x with
  | non =>
    cases rx
    cases y with
    | non => cases ry; exact PySem.EqNone.ne_none_none (fin_bl I q (by simp))
    | bl j => cases ry; exact PySem.EqNone.ne_none_bool (fin_bl I q (by simp))
    | int j => obtain ⟨t', rfl⟩ := ry; exact PySem.EqNone.ne_none_int (fin_bl I q (by simp))
    | str j => obtain ⟨t', rfl⟩ := ry; exact PySem.EqNone.ne_none_str (fin_bl I q (by simp))
    | _ => exact absurd (show false = true from hs) Bool.false_ne_true
  | bl i =>
    cases rx
    cases y with
    | non => cases ry; exact PySem.EqNone.ne_bool_none (fin_bl I q (by simp))
    | bl j => cases ry; exact ne_bool (fin_bl I q (congrArg not dec_bl))
    | str j => obtain ⟨t', rfl⟩ := ry; exact PySem.EqMixed.ne_bool_str (fin_bl I q (by simp))
    | _ => exact absurd (show false = true from hs) Bool.false_ne_true
  | int i =>
    obtain ⟨t, rfl⟩ := rx
    cases y with
    | non => cases ry; exact PySem.EqNone.ne_int_none (fin_bl I q (by simp))
    | int j => obtain ⟨t', rfl⟩ := ry; exact ne_int (fin_bl I q (congrArg not dec_int))
    | str j => obtain ⟨t', rfl⟩ := ry; exact PySem.EqMixed.ne_int_str (fin_bl I q (by simp))
    | _ => exact absurd (show false = true from hs) Bool.false_ne_true
  | str i =>
    obtain ⟨t, rfl⟩ := rx
    cases y with
    | non => cases ry; exact PySem.EqNone.ne_str_none (fin_bl I q (by simp))
    | bl j => cases ry; exact PySem.EqMixed.ne_str_bool (fin_bl I q (by simp))
    | int j => obtain ⟨t', rfl⟩ := ry; exact PySem.EqMixed.ne_str_int (fin_bl I q (by simp))
    | str j => obtain ⟨t', rfl⟩ := ry; exact ne_str (fin_bl I q (congrArg not dec_str))
    | _ => exact absurd (show false = true from hs) Bool.false_ne_true
  | byt i =>
    obtain ⟨t, rfl⟩ := rx
    cases y with
    | byt j => obtain ⟨t', rfl⟩ := ry; exact PySem.W.ne_bytes (fin_bl I q (congrArg not dec_byt))
    | _ => exact absurd (show false = true from hs) Bool.false_ne_true
  | _ => cases y <;> exact absurd (show false = true from hs) Bool.false_ne_true

theorem op_lt : OpR X (compareOp .Lt) (rI0 fun i j => .bl (decide (i < j))) := opB0 fun _ _ _ _ _ _ _ q => lt_int q
theorem op_gt : OpR X (compareOp .Gt) (rI0 fun i j => .bl (decide (j < i))) := opB0 fun _ _ _ _ _ _ _ q => gt_int q
theorem op_ge : OpR X (compareOp .GtE) (rI0 fun i j => .bl (decide (j ≤ i))) := opB0 fun _ _ _ _ _ _ _ q => ge_int q
theorem op_lt_str : OpR X (compareOp .Lt) (fun x y H Q => ∃ i j, x = .str i ∧ y = .str j ∧ Q (.bl (decide (i.cps.toList < j.cps.toList))) H) := by
  intro pins s σ H x y v u Q I rx ry h
  obtain ⟨i, j, rfl, rfl, q⟩ := h
  obtain ⟨t, rfl⟩ := rx
  obtain ⟨t', rfl⟩ := ry
  exact lt_str (fin_bl I q rfl)
/-- two rules for one operation: by cases -/
theorem OpR.or {f : Value → Value → Sem Value} {r r' : R2} (h : OpR X f r) (h' : OpR X f r') : OpR X f (fun x y H Q => r x y H Q ∨ r' x y H Q) := by
  intro pins s σ H x y v u Q I rx ry q
  rcases q with q | q
  · exact h pins s σ H x y v u Q I rx ry q
  · exact h' pins s σ H x y v u Q I rx ry q

theorem nomark (b : Expr) {op : CmpOp} (h : op ≠ .In := by decide) (h2 : op ≠ .NotIn := by decide) : behindInMarks op b = false := by
  have e1 : (op == CmpOp.In) = false := by cases op <;> first | rfl | exact absurd rfl h
  have e2 : (op == CmpOp.NotIn) = false := by cases op <;> first | rfl | exact absurd rfl h2
  cases b <;> simp [behindInMarks, e1, e2]
/-- a comparison as a value; hm: nomark b, or (for in, not in) by with_unfolding_all rfl -/
theorem pe_cmpR {op : CmpOp} {r : R2} (ho : OpR X (compareOp op) r) (ha : PE X a ta) (hb : PE X b tb) (hm : behindInMarks op b = false) : PE X (.Compare a [op] [b] pos) (tOp r ta tb) := by
  intro pins s σ H Q I h
  exact wpAny_Compare1 (binT ha hb I h fun v u s2 x y H2 I2 rx ry q => ho pins s2 σ H2 x y v u Q I2 rx ry q) hm
/-- a reading of a value as a test -/
def tTest (t : TE) : TT := fun σ H Q => t σ H fun x H' => ∃ k, x = .bl k ∧ Q k H'
theorem pt_cmpR {op : CmpOp} {r : R2} (ho : OpR X (compareOp op) r) (ha : PE X a ta) (hb : PE X b tb) (hm : behindInMarks op b = false) : PT X (.Compare a [op] [b] pos) (tTest (tOp r ta tb)) := by
  intro pins s σ H Q I h
  refine wpAny_isTrue_Compare1 (thn (ha pins s σ H _ I h) fun v s1 ⟨x, H1, I1, r1, q1⟩ => thn (hb pins s1 σ H1 _ I1 q1) fun u s2 ⟨y, H2, I2, r2, q2⟩ =>
    thn (ho pins s2 σ H2 x y v u _ I2 r1 r2 q2) fun c s3 ⟨z, H3, I3, r3, k, e, q3⟩ => ?_) hm
  subst e
  cases r3
  exact wpAny_truthy_bool ⟨H3, I3, q3⟩
/-! ### truth -/
/-- a value's truth by the abstract heap -/
def TruV (K : PySem.W.Frag) (x : V) (H : Hp) (k : Bool) : Prop :=
  match x with
  | .non => k = false
  | .bl b => k = b
  | .int i => k = (i != 0)
  | .str y => y.length ≤ sizeLine ∧ k = ((y.length : Int) != 0)
  | .byt y => y.size ≤ sizeLine ∧ k = ((y.size : Int) != 0)
  | .ref p => (∃ xs, SqL K H p xs ∧ k = !xs.isEmpty) ∨ (∃ xs, SqT K H p xs ∧ k = !xs.isEmpty) ∨ ∃ kvs, H p = some (.dK kvs) ∧ k = !kvs.isEmpty
  | _ => False
theorem isEmpty_kv {κ : Type} {kvs : List (κ × V)} {vs : List (κ × Value)} (r : KV kvs vs) : (!vs.isEmpty) = !kvs.isEmpty := by
  cases r <;> rfl
theorem isEmpty_of {xs : List V} {its : List Value} (r : Vals xs its) : (!its.toArray.isEmpty) = !xs.isEmpty := by
  cases r <;> simp
theorem line63 : (sizeLine : Nat) < 2 ^ 63 := by rw [sizeLine_eq]; decide
theorem tru_ok : TruR X (fun x H Q => ∃ k, TruV X.K x H k ∧ Q k H) := by
  intro pins s σ H x v Q I rx h
  obtain ⟨k, e, q⟩ := h
  have hl := line63
  have hs : sizeLine = 16777216 := sizeLine_eq
  cases x with
  | non =>
    cases rx
    have e' : k = false := e
    subst e'
    exact truthy_none ⟨H, I, q⟩
  | bl b =>
    cases rx
    have e' : k = b := e
    subst e'
    exact wpAny_truthy_bool ⟨H, I, q⟩
  | int i =>
    obtain ⟨t, rfl⟩ := rx
    have e' : k = (i != 0) := e
    subst e'
    exact PySem.P.truthy_int ⟨H, I, q⟩
  | str y =>
    obtain ⟨t, rfl⟩ := rx
    obtain ⟨hy, e'⟩ : y.length ≤ sizeLine ∧ k = ((y.length : Int) != 0) := e
    subst e'
    exact PySem.P.truthy_str (by omega) ⟨H, I.tok _, q⟩
  | byt y =>
    obtain ⟨t, rfl⟩ := rx
    obtain ⟨hy, e'⟩ : y.size ≤ sizeLine ∧ k = ((y.size : Int) != 0) := e
    subst e'
    exact PySem.W.truthy_bytes (by omega) ⟨H, I.tok _, q⟩
  | ref p =>
    cases rx
    have e' : (∃ xs, SqL X.K H p xs ∧ k = !xs.isEmpty) ∨ (∃ xs, SqT X.K H p xs ∧ k = !xs.isEmpty) ∨ ∃ kvs, H p = some (.dK kvs) ∧ k = !kvs.isEmpty := e
    rcases e' with ⟨xs, hx, e'⟩ | ⟨xs, hx, e'⟩ | ⟨kvs, hx, e'⟩
    · subst e'
      obtain ⟨its, r, pl, hz⟩ := I.list hx
      have hlen := r.length
      exact wpAny_truthy_list pl.isList (by simp only [List.size_toArray]; omega) ⟨H, I.tok _, by rw [isEmpty_of r]; exact q⟩
    · subst e'
      obtain ⟨its, r, pl, hz⟩ := I.tuple hx
      have hlen := r.length
      exact truthy_tuple pl (by simp only [List.size_toArray]; omega) ⟨H, I.tok _, by rw [isEmpty_of r]; exact q⟩
    · subst e'
      obtain ⟨hz, hS, vs, r, m⟩ : kvs.length ≤ sizeLine ∧ (p == sysModules) = false ∧ ∃ vs, KV kvs vs ∧ s.heap.DictOf (mixKind X.prog X.w) p vs := I.hok p _ hx
      have hlen : kvs.length = vs.length := Paired.length r
      exact wpAny_truthy_dict hS m (by omega) ⟨H, I.tok _, by rw [isEmpty_kv r]; exact q⟩
  | _ => exact (show False from e).elim
/-- any expression whose test is its value's truth (a name, a call, a subscript, a field ..: he by fun _ => rfl) -/
theorem pt_truth (ha : PE X a ta) (he : ∀ whole, isTrue a X.env whole = (do let v ← whole; standAt a.pos; holding [v] (truthy v))) :
    PT X a (fun σ H Q => ta σ H fun x H' => ∃ k, TruV X.K x H' k ∧ Q k H') := by
  intro pins s σ H Q I h
  exact isTrue_plain (thn (ha pins s σ H _ I h) fun v s1 ⟨x, H1, I1, r1, q1⟩ => tru_ok pins s1 σ H1 x v Q I1 r1 q1) (he _)

/-! ### strs and bytes -/
theorem op_add_str : OpR X (binaryOp .Add) (fun x y H Q => ∃ i j, x = .str i ∧ y = .str j ∧ i.length + j.length ≤ sizeLine ∧ Q (.str (i ++ j)) H) := by
  intro pins s σ H x y v u Q I rx ry h
  obtain ⟨i, j, rfl, rfl, hz, q⟩ := h
  obtain ⟨t, rfl⟩ := rx
  obtain ⟨t', rfl⟩ := ry
  exact add_str (fun t' tk => ⟨.str (i ++ j), H, I.tok _, ⟨_, rfl⟩, q⟩) hz
/-! ### scalar builtins, by CallR -/
theorem vals1 {x : V} {us : List Value} (r : Vals [x] us) : ∃ u, us = [u] ∧ RelV x u := by
  cases r with
  | cons r1 r2 => cases r2; exact ⟨_, rfl, r1⟩
theorem vals2 {x y : V} {us : List Value} (r : Vals [x, y] us) : ∃ u w', us = [u, w'] ∧ RelV x u ∧ RelV y w' := by
  cases r with
  | cons r1 r2 =>
    cases r2 with
    | cons r3 r4 => cases r4; exact ⟨_, _, rfl, r1, r3⟩
theorem call_max2 (hc : X.calm = true) : CallR X (.builtin "max") (fun xs H Q => ∃ i j, xs = [.int i, .int j] ∧ Q (.int (if j > i then j else i)) H) := by
  intro pins s σ H xs us Q I r h
  obtain ⟨i, j, rfl, q⟩ := h
  obtain ⟨u, w', rfl, ⟨t, rfl⟩, ⟨t', rfl⟩⟩ := vals2 r
  refine max_two_ints (I.ok.hd hc) fun h' tk k => ⟨_, H, I.kept k, ?_, q⟩
  by_cases hj : j > i
  · rw [if_pos hj, if_pos hj]; exact ⟨_, rfl⟩
  · rw [if_neg hj, if_neg hj]; exact ⟨_, rfl⟩
theorem call_int1 : CallR X (.type "int") (fun xs H Q => (∃ i, xs = [.int i] ∧ Q (.int i) H) ∨ ∃ k, xs = [.bl k] ∧ Q (.int (if k then 1 else 0)) H) := by
  intro pins s σ H xs us Q I r h
  rcases h with ⟨i, rfl, q⟩ | ⟨k, rfl, q⟩
  · obtain ⟨u, rfl, t, rfl⟩ := vals1 r
    exact call_int_int ⟨.int i, H, I, ⟨_, rfl⟩, q⟩
  · obtain ⟨u, rfl, r1⟩ := vals1 r
    cases r1
    exact call_int_bool ⟨.int (if k then 1 else 0), H, I.tok _, ⟨_, rfl⟩, q⟩
end
end L2

namespace L2
open PySem PySem.Spec PyProof.Rows

/-! ### an instance, its attributes a map -/
structure ObjM (h : Heap) (x dx C : Addr) (mA : Str → Option Value) : Prop where
  obj : h.get? x = some (PySem.W.instObj C dx)
  ns : h.Ns1 dx mA
  ne : dx ≠ x

theorem lookIn_ns {h : Heap} {dx : Addr} {mA : Str → Option Value} (n : h.Ns1 dx mA) : ∃ od, h.get? dx = some od ∧ ∀ name, PySem.W.lookIn name od = some (mA name) := by
  obtain ⟨o, es, ep, ho, hd, hk, _, hm⟩ := n
  refine ⟨o, ho, fun name => ?_⟩
  have e := hm name
  unfold nsFind findBy at e
  rw [← Array.find?_toList] at e
  unfold PySem.W.lookIn
  rw [hd]
  dsimp only
  split
  · rename_i y q
    rw [q] at e
    exact congrArg some e
  · rename_i q
    rw [q] at e
    have a : es.toList.any (·.refKey) = false := by
      rw [List.any_eq_false]
      intro y hy
      obtain ⟨z, t, hkey⟩ := hk y (Array.mem_toList_iff.mp hy)
      simp [DictEntry.refKey, hkey]
    have a' : ¬ es.toList.any (·.refKey) = true := by rw [a]; exact Bool.false_ne_true
    rw [if_neg a']
    exact congrArg some e

theorem ObjM.look {h : Heap} {x dx C : Addr} {mA : Str → Option Value} (I : ObjM h x dx C mA) : ∃ od, PySem.W.InstAt h x (PySem.W.instObj C dx) C (some od) ∧ ∀ name, PySem.W.lookIn name od = some (mA name) :=
  let ⟨od, ho, hl⟩ := lookIn_ns I.ns
  ⟨od, ⟨I.obj, rfl, rfl, ho⟩, hl⟩

section
variable {prog : Program} {w : World} {A : Around} {E : Value → Shared → Prop} {s : Shared} {K : PySem.W.Frag} {x dx C f : Addr} {mA : Str → Option Value} {name : Str} {v : Value}

end

/-! ### the attributes as a list of pairs -/
def putF (f : Str) (v : V) : List (Str × V) → List (Str × V)
  | [] => [(f, v)]
  | (g, x) :: r => if g = f then (g, v) :: r else (g, x) :: putF f v r
theorem lookup_putF (f g : Str) (v : V) : ∀ fs : List (Str × V), (putF f v fs).lookup g = if g = f then some v else fs.lookup g
  | [] => by
    show List.lookup g [(f, v)] = _
    by_cases h : g = f
    · have hb : (g == f) = true := beq_iff_eq.mpr h
      simp only [List.lookup, hb, if_pos h]
    · have hb : (g == f) = false := beq_eq_false_iff_ne.mpr h
      simp only [List.lookup, hb, if_neg h]
  | (k, x) :: r => by
    have ih := lookup_putF f g v r
    rw [show putF f v ((k, x) :: r) = (if k = f then (k, v) :: r else (k, x) :: putF f v r) from rfl]
    by_cases hk : k = f
    · rw [if_pos hk]
      by_cases h : g = k
      · have hb : (g == k) = true := beq_iff_eq.mpr h
        simp only [List.lookup, hb, if_pos (h.trans hk)]
      · have hb : (g == k) = false := beq_eq_false_iff_ne.mpr h
        simp only [List.lookup, hb, if_neg (fun e : g = f => h (e.trans hk.symm))]
    · rw [if_neg hk]
      by_cases h : g = k
      · have hb : (g == k) = true := beq_iff_eq.mpr h
        simp only [List.lookup, hb, if_neg (fun e : g = f => hk (h.symm.trans e))]
      · have hb : (g == k) = false := beq_eq_false_iff_ne.mpr h
        simp only [List.lookup, hb]
        exact ih
theorem handed_of {v : V} {u : Value} (r : RelV v u) : PySem.W.handedIn u = true := by
  cases v with
  | non => cases (show u = Value.none from r); rfl
  | bl b => cases (show u = Value.bool b from r); rfl
  | int i => obtain ⟨t, e⟩ := (show ∃ t, u = Value.int i t from r); cases e; rfl
  | str x => obtain ⟨t, e⟩ := (show ∃ t, u = Value.str x t from r); cases e; rfl
  | byt b => obtain ⟨t, e⟩ := (show ∃ t, u = Value.bytes b t from r); cases e; rfl
  | flt b => obtain ⟨t, e⟩ := (show ∃ t, u = Value.float b t from r); cases e; rfl
  | ref a => cases (show u = Value.ref a from r); rfl
  | ty n => cases (show u = Value.type n from r); rfl

section
variable {P : Program} {w : World} {H H' : Hp} {h h' : Heap} {a C dx : Addr} {fs fs' : List (Str × V)}
end

/-! ### what of the text a class must have -/
structure Cls (K : PySem.W.Frag) (C : Addr) : Prop where
  pg : PySem.W.plainGet K C Str.empty = true
  hd : PySem.W.hasDictIn K C = true
  po : PySem.W.plainOver K C = true
  sa : PySem.W.findIn K (.ref C) "__setattr__" = some (some (.builtin "object.__setattr__"))
theorem Cls.get {K : PySem.W.Frag} {C : Addr} (c : Cls K C) (f : Str) : PySem.W.plainGet K C f = true := c.pg
/-- a constant of the class -/
structure Con (K : PySem.W.Frag) (C : Addr) (f : Str) (v : V) (u : Value) : Prop where
  at_ : PySem.W.findIn K (.ref C) f = some (some u)
  rel : RelV v u
  get : PySem.W.specialIn K u "__get__" = some none
  cp : PySem.W.copiedNames.contains f = false
/-- a method: a plain def of the class or of one above it -/
structure Meth (K : PySem.W.Frag) (C : Addr) (m : Str) (f : Addr) : Prop where
  at_ : PySem.W.findIn K (.ref C) m = some (some (.ref f))
  fn : PySem.W.isFn K (.ref f) = true
  kp : PySem.W.keepIn K (.ref f) = true

section
variable {X : Cx} {pins : List (Addr × Obj)} {σ : St} {H : Hp} {s : Shared} {a C dx : Addr} {fs : List (Str × V)} {f : Str} {v : V} {A : Around} {E : Value → Shared → Prop}

/-- a new instance, tracked, without attributes -/
theorem Inv.made (I : Inv X pins σ H s) : Inv X pins σ (upd (upd H s.heap.objs.size (.own (s.heap.objs.size + 1))) (s.heap.objs.size + 1) (.ins C s.heap.objs.size []))
    { s with heap := (s.heap.push PySem.W.emptyDict).push (PySem.W.instObj C s.heap.objs.size) } := by
  have e1 : (s.heap.push PySem.W.emptyDict).get? s.heap.objs.size = some PySem.W.emptyDict := Heap.get?_push_size s.heap rfl
  have e2 : ((s.heap.push PySem.W.emptyDict).push (PySem.W.instObj C s.heap.objs.size)).get? (s.heap.objs.size + 1) = some (PySem.W.instObj C s.heap.objs.size) := by
    have := Heap.get?_push_size (s.heap.push PySem.W.emptyDict) (o := PySem.W.instObj C s.heap.objs.size) rfl
    rwa [Heap.size_push] at this
  have e3 : (s.heap.push PySem.W.emptyDict).Ns s.heap.objs.size (fun _ => none) := ⟨PySem.W.emptyDict, #[], _, e1, rfl, (fun e he => absurd he (by simp)), fun _ => rfl⟩
  have I1 := I.laid (a := s.heap.objs.size) (o := .own (s.heap.objs.size + 1)) (h' := s.heap.push PySem.W.emptyDict) (t' := s.toks) (fun b u q => Heap.get?_push_of_some _ q) (Nat.le_refl _) ⟨_, e1⟩
  refine I1.laid (a := s.heap.objs.size + 1) (o := .ins C s.heap.objs.size []) (t' := s.toks) (fun b u q => Heap.get?_push_of_some _ q) (Nat.le_of_eq (Heap.size_push _ _)) ?_
  have ne : s.heap.objs.size ≠ s.heap.objs.size + 1 := Nat.ne_of_lt (Nat.lt_succ_self _)
  refine ⟨by rw [upd_ne ne, upd_same], Nat.zero_le _, ne, e2, fun _ => none, (Heap.Ns1.of_empty e3).at fun o q => Heap.get?_push_of_some _ q, fun _ => True.intro, fun y hy => absurd rfl hy⟩

/-- e.f where nothing but the object is asked: through attributeBase (super) and the last hold -/
theorem attr_of {prog : Program} {w : World} {env : Env} {e : Expr} {f : Str} {pos : Pos} {s : Shared} {Q : Value → Shared → Prop} (hb : attributeBase e f env (eval e env) = eval e env)
    (h : wpAny (model prog w) A (eval e env) (fun o s₁ => wpAny (model prog w) A (getAttr o f true) Q E s₁) E s) : wpAny (model prog w) A (eval (.Attribute e f pos) env) Q E s :=
  Attribute_any_ h (by rw [arm_eval_Attribute, hb])
end

/-! ### readings and rules -/
section
variable {X : Cx} {o e value : Expr} {f : Str} {pos pos' tpos : Pos} {ta tv : TE}
end

/-! ### isinstance -/
section
variable {X : Cx} {pins : List (Addr × Obj)} {σ : St} {H : Hp} {s : Shared} {A : Around} {E : Value → Shared → Prop} {Q : Value → Shared → Prop} {c : Value} {b : Bool}
/-- the type of a value, as the fragment's deciders take it; for an instance its class -/
inductive TyOf (K : PySem.W.Frag) (H : Hp) : V → Value → Prop where
  | non : TyOf K H .non (.type "NoneType")
  | bl (x : Bool) : TyOf K H (.bl x) (.type "bool")
  | int (i : Int) : TyOf K H (.int i) (.type "int")
  | str (x : Str) : TyOf K H (.str x) (.type "str")
  | flt (x : UInt64) : TyOf K H (.flt x) (.type "float")
  | lst {a : Addr} {xs : List V} (e : H a = some (.lst xs)) : TyOf K H (.ref a) (.type "list")
  | frz {a : Addr} {o : Obj} {xs : List V} (e : H a = some (.frz o (.lst xs))) : TyOf K H (.ref a) (.type "list")
  | tup {a : Addr} {xs : List V} (e : H a = some (.tup xs)) : TyOf K H (.ref a) (.type "tuple")
  | dK {a : Addr} {kvs : List (Key × V)} (e : H a = some (.dK kvs)) : TyOf K H (.ref a) (.type "dict")
  | dT {a : Addr} {kvs : List (List Key × V)} (e : H a = some (.dT kvs)) : TyOf K H (.ref a) (.type "dict")
  | ins {a C dx : Addr} {fs : List (Str × V)} (e : H a = some (.ins C dx fs)) (cl : Cls K C) (ha : PySem.W.findIn K (.ref C) "__class__" = some (some (.builtin "object.__class__")))
      (hn : PySem.W.specialIn K (.builtin "object.__class__") "__get__" = some (some (.builtin "getset_descriptor.__get__"))) (htk : PySem.W.takesIn K (.builtin "object.__class__") = some true)
      (hm : PySem.W.mroIn K C (.type "object") = some true) : TyOf K H (.ref a) (.ref C)
end
end L2

namespace L2
open PySem PySem.Spec PyProof.Rows

/-! ### room -/
structure Room (k : Nat) (A : Around) : Prop where
  hd : A.handled = none
  dp : A.depth + 3 * k + 5 < recursionLimit
  un : A.units + 16 * k + 200 < cLine
  gd : A.guards = some []
theorem Room.mono {j k : Nat} {A : Around} (r : Room k A) (h : j ≤ k) : Room j A := ⟨r.hd, by have := r.dp; omega, by have := r.un; omega, r.gd⟩
theorem Room.deeper {k : Nat} {A : Around} (r : Room (k + 1) A) (env : Env) : Room k (A.deeper env) :=
  ⟨r.hd, by have := r.dp; show A.depth + 1 + 3 * k + 5 < _; omega, by have := r.un; show A.units + 3 + 16 * k + 200 < _; omega, r.gd⟩
theorem Room.in1 {k : Nat} {A : Around} (r : Room (k + 1) A) : Room k A.in1 :=
  ⟨r.hd, by have := r.dp; show A.depth + 3 * k + 5 < _; omega, by have := r.un; show A.units + 1 + 16 * k + 200 < _; omega, r.gd⟩
theorem make_depth {A : Around} {C : Addr} {us : List Value} {kw : List (Str × Value)} : (A.under (.builtin "type.__call__" ⟨.ref C :: us, kw⟩)).depth = A.depth + 1 := by
  first | rfl | simp [Around.under, Code.weight, Code.isCreation, Code.isGuard, Code.isCaller, Code.frames, Code.isFrame, guardIds]
theorem make_units {A : Around} {C : Addr} {us : List Value} {kw : List (Str × Value)} : (A.under (.builtin "type.__call__" ⟨.ref C :: us, kw⟩)).units = A.units + 1 := by
  first | rfl | simp [Around.under, Code.cUnits, Code.frames, Code.isFrame]
theorem Room.make {k : Nat} {A : Around} (r : Room (k + 1) A) (C : Addr) (us : List Value) (kw : List (Str × Value)) : Room k (A.under (.builtin "type.__call__" ⟨.ref C :: us, kw⟩)) :=
  ⟨r.hd, by have := r.dp; rw [make_depth]; omega, by have := r.un; rw [make_units]; omega, by have := r.gd; first | exact this | simpa [Around.under, Code.isGuard, guardIds] using this⟩
theorem Room.depth {k : Nat} {A : Around} (r : Room k A) : A.depth < recursionLimit := by have := r.dp; omega
theorem Room.units {k : Nat} {A : Around} (r : Room k A) : A.units + 64 < cLine := by have := r.un; omega
theorem Room.units0 {k : Nat} {A : Around} (r : Room k A) : A.units < cLine := by have := r.un; omega

/-! ### argument lists and displays -/
def tNil : TA := fun _ H Q => Q [] H
def tCons (ta : TE) (tr : TA) : TA := fun σ H Q => ta σ H fun x H1 => tr σ H1 fun xs H2 => Q (x :: xs) H2
section
variable {X : Cx} {e : Expr} {es : List Expr} {te : TE} {t : TA} {pos : Pos}
theorem pa_nil : PA X [] tNil := fun _ _ _ _ H Q I h => Calls.spliced_nil ⟨[], H, I, .nil, h⟩
theorem pa_cons (ha : PE X e te) (hr : PA X es t) (hs : starEach (e :: es) X.env = (false, eval e X.env) :: starEach es X.env := by rfl) : PA X (e :: es) (tCons te t) := by
  intro pos pins s σ H Q I h
  rw [hs]
  show wpAny _ _ (spliced ((false, eval e X.env) :: backTo pos (starEach es X.env))) _ _ s
  refine Calls.spliced_cons (thn (ha pins s σ H _ I h) fun u s1 ⟨x, H1, I1, r1, q1⟩ => ?_)
  exact thn (hr pos pins s1 σ H1 _ I1 q1) fun us s2 ⟨xs, H2, I2, r2, q2⟩ => ⟨x :: xs, H2, I2, .cons r1 r2, q2⟩

/-- a tuple, a list of written items -/
def tTup (t : TA) : TE := fun σ H Q => t σ H fun xs H1 => xs.length ≤ sizeLine ∧ ∀ p, H1 p = none → Q (.ref p) (upd H1 p (.tup xs))
def tLst (t : TA) : TE := fun σ H Q => t σ H fun xs H1 => xs.length ≤ sizeLine ∧ ∀ p, H1 p = none → Q (.ref p) (upd H1 p (.lst xs))
theorem pe_tup {x1} (h : PA X es t) : PE X (.Tuple es x1 pos) (tTup t) := by
  intro pins s σ H Q I hq
  refine wpAny_Tuple_spliced (thn (h pos pins s σ H _ I hq) fun us s1 ⟨xs, H1, I1, r, z, q⟩ => ⟨by rw [← r.length]; exact z, ?_⟩)
  have hf : H1 s1.heap.objs.size = none := I1.hok.fresh (Nat.le_refl _)
  refine ⟨.ref s1.heap.objs.size, upd H1 s1.heap.objs.size (.tup xs), I1.laid (t' := s1.toks) (fun b u e => Heap.get?_push_of_some _ e) (Nat.le_refl _) ?_, rfl, q _ hf⟩
  exact ⟨z, us, r, ⟨_, Heap.get?_push_size _ rfl, rfl, _, rfl⟩⟩
theorem pe_lst (h : PA X es t) : PE X (.List es pos) (tLst t) := by
  intro pins s σ H Q I hq
  refine wpAny_List_spliced (thn (h pos pins s σ H _ I hq) fun us s1 ⟨xs, H1, I1, r, z, q⟩ => ⟨by rw [← r.length]; exact z, ?_⟩)
  have hf : H1 s1.heap.objs.size = none := I1.hok.fresh (Nat.le_refl _)
  refine ⟨.ref s1.heap.objs.size, upd H1 s1.heap.objs.size (.lst xs), I1.laid (t' := s1.toks) (fun b u e => Heap.get?_push_of_some _ e) (Nat.le_refl _) ?_, rfl, q _ hf⟩
  exact ⟨z, us, 0, r, Heap.get?_push_size _ rfl⟩
end

/-! ### what a def promises -/
/-- a def's promise: the bound arguments in the parameters' order, the heap, the wanted end, the wanted exception -/
abbrev Sp := List V → Hp → VK → XK → Prop
/-- how an exception lies behind a call (file 08 gives it): the callers' frames, abstract heap and state ahead of the call, the wish, the exception, the state -/
abbrev CXT := List Env → Hp → Shared → XK → Value → Shared → Prop

/-- the state at a call -/
structure Env0 (P : Program) (w : World) (K : PySem.W.Frag) (mg : Str → Option Value) (base : Heap) (A : Around) (outer : List Env) (s : Shared) (H : Hp) : Prop where
  frames : A.frames = some outer
  mod : Mod K mg base
  bs : ∀ b o, base.get? b = some o → s.heap.get? b = some o ∧ H b = none
  bsz : base.objs.size ≤ s.heap.objs.size
  funs : s.heap.FunFrames base outer
  frf : ∀ b ∈ frs outer, H b = none
  hok : HOk P w H s.heap
  bare : AllBare s.gens
/-- a call's end -/
def CE (outer : List Env) (P : Program) (w : World) (H : Hp) (s : Shared) (Q : VK) (u : Value) (s' : Shared) : Prop :=
  ∃ v H', s'.os = s.os ∧ AllBare s'.gens ∧ Un (frs outer) [] H H' s.heap s'.heap ∧ HOk P w H' s'.heap ∧ RelV v u ∧ Q v H'
def CR (CX : CXT) (outer : List Env) (P : Program) (w : World) (H : Hp) (s : Shared) (Q : VK) (E : XK) (r : Result) (s' : Shared) : Prop :=
  match r with
  | .ok (.ret u) => CE outer P w H s Q u s'
  | .ok _ => False
  | .error e => CX outer H s E e s'
structure FnOk (P : Program) (w : World) (K : PySem.W.Frag) (mg : Str → Option Value) (base : Heap) (CX : CXT) (k : Nat) (f : Addr) (fd : FuncData) (ps : List Str) (sp : Sp) : Prop where
  len : ∀ vs H Q E, sp vs H Q E → vs.length = ps.length
  run : ∀ (A : Around) (outer : List Env) (s : Shared) (H : Hp) (args : Args) (us : List Value) (vs : List V) (Q : VK) (E : XK), Room k A → Env0 P w K mg base A outer s H → BindsTo s fd args (ps.zip us) → Vals vs us → sp vs H Q E →
    codeAny (model P w) A (.call (.ref f) args) (CR CX outer P w H s Q E) s
theorem FnOk.mono {P : Program} {w : World} {K : PySem.W.Frag} {mg : Str → Option Value} {base : Heap} {CX : CXT} {j k : Nat} {f : Addr} {fd : FuncData} {ps : List Str} {sp : Sp} (F : FnOk P w K mg base CX j f fd ps sp) (h : j ≤ k) :
    FnOk P w K mg base CX k f fd ps sp := ⟨F.len, fun A outer s H args us vs Q E hr => F.run A outer s H args us vs Q E (hr.mono h)⟩
/-- a weaker promise -/
theorem FnOk.imp {P : Program} {w : World} {K : PySem.W.Frag} {mg : Str → Option Value} {base : Heap} {CX : CXT} {k : Nat} {f : Addr} {fd : FuncData} {ps : List Str} {sp sp' : Sp} (F : FnOk P w K mg base CX k f fd ps sp)
    (h : ∀ vs H Q E, sp' vs H Q E → sp vs H Q E) : FnOk P w K mg base CX k f fd ps sp' :=
  ⟨fun vs H Q E q => F.len vs H Q E (h _ _ _ _ q), fun A outer s H args us vs Q E hr he hb hv hs => F.run A outer s H args us vs Q E hr he hb hv (h _ _ _ _ hs)⟩

theorem Env0.make {P : Program} {w : World} {K : PySem.W.Frag} {mg : Str → Option Value} {base : Heap} {A : Around} {outer : List Env} {s : Shared} {H : Hp} (e : Env0 P w K mg base A outer s H) (C : Addr) (us : List Value) (kw : List (Str × Value)) :
    Env0 P w K mg base (A.under (.builtin "type.__call__" ⟨.ref C :: us, kw⟩)) outer s H := ⟨by first | exact e.frames | (simpa [Around.under, Code.envs, Code.isFrame, pushEnvs] using e.frames), e.mod, e.bs, e.bsz, e.funs, e.frf, e.hok, e.bare⟩
theorem Env0.in1 {P : Program} {w : World} {K : PySem.W.Frag} {mg : Str → Option Value} {base : Heap} {A : Around} {outer : List Env} {s : Shared} {H : Hp} (e : Env0 P w K mg base A outer s H) :
    Env0 P w K mg base A.in1 outer s H := ⟨e.frames, e.mod, e.bs, e.bsz, e.funs, e.frf, e.hok, e.bare⟩

section
variable {X : Cx} {pins : List (Addr × Obj)} {σ : St} {H : Hp} {s s' : Shared}
/-- from a body: what a callee wants -/
theorem Inv.env0 (I : Inv X pins σ H s) : Env0 X.prog X.w X.K X.mg X.base X.A X.stack s H :=
  ⟨I.ok.frames, I.ok.mod, I.bs, Nat.le_trans I.ok.bsz I.sz, I.stack, I.stkFree, I.hok, I.bare⟩
/-- behind a call -/
theorem Inv.after {Q : VK} {u : Value} (I : Inv X pins σ H s) (h : CE X.stack X.prog X.w H s Q u s') : EP X pins σ Q u s' := by
  obtain ⟨v, H', os, bare, un, hok, r, q⟩ := h
  obtain ⟨hh, g, d, t, os'⟩ := s'
  obtain rfl : os' = s.os := os
  exact ⟨v, H', I.call (h' := hh) (g' := g) (d' := d) (t' := t) (ch := []) un hok bare (fun b z => absurd z (by simp)), r, q⟩
end

/-! ### calls -/
/-- f(..): the written arguments, then the defaults dvs; E: what is wanted of an exception -/
def tCall (sp : Sp) (dvs : List V) (E : XK) (t : TA) : TE := fun σ H Q => t σ H fun vs H1 => sp (vs ++ dvs) H1 Q E
/-- how the parameters are bound: us the positional arguments, kw the keywords' values by name, ds the defaults that fill up -/
def Binds (K : PySem.W.Frag) (fd : FuncData) (ps : List Str) (ds : List Value) : Prop :=
  ∀ (s : Shared) (us : List Value), K.In s.heap → (us ++ ds).length = ps.length → BindsTo s fd ⟨us, []⟩ (ps.zip (us ++ ds))
/-- every parameter is given -/
theorem Binds.all {K : PySem.W.Frag} {fd : FuncData} {ps : List Str} (h : ∀ us : List Value, us.length = ps.length → bindArgs fd ⟨us, []⟩ = pure (ps.zip us)) : Binds K fd ps [] := fun s us _ hl => by
  rw [List.append_nil] at hl ⊢
  exact .of_eq (h us hl)

/-- an exception of a callee reaches what this body wants of exceptions -/
def Passes (CX : CXT) (X : Cx) (E : XK) : Prop := ∀ (pins : List (Addr × Obj)) (σ : St) (H : Hp) (s : Shared) (e : Value) (s' : Shared), Inv X pins σ H s → CX X.stack H s E e s' → X.xe e s'

section
variable {X : Cx} {CX : CXT} {k : Nat} {f C : Addr} {fd : FuncData} {ps : List Str} {sp : Sp} {dvs : List V} {ds : List Value} {E : XK} {x m : Str} {p pos apos : Pos} {e o : Expr} {es : List Expr} {ta : TE} {t : TA}

/-- the callee runs -/
theorem run_fn {pins : List (Addr × Obj)} {σ : St} {H : Hp} {s : Shared} {Q : VK} {us : List Value} {vs : List V} (F : FnOk X.prog X.w X.K X.mg X.base CX k f fd ps sp) (hr : Room k X.A) (hb : Binds X.K fd ps ds) (hd : Vals dvs ds) (hx : Passes CX X E)
    (I : Inv X pins σ H s) (r : Vals vs us) (h : sp (vs ++ dvs) H Q E) : wpAny (model X.prog X.w) X.A (call (.ref f) us) (EP X pins σ Q) X.xe s := by
  have r2 : Vals (vs ++ dvs) (us ++ ds) := r.append hd
  have hl : (us ++ ds).length = ps.length := by rw [← r2.length]; exact F.len _ _ _ _ h
  refine wpAny_call (codeAny_mono (F.run X.A X.stack s H ⟨us, []⟩ (us ++ ds) (vs ++ dvs) Q E hr I.env0 (hb s us I.kIn hl) r2 h) fun r s' hq => ?_)
  cases r with
  | error e => exact hx pins σ H s e s' I hq
  | ok fl =>
    cases fl with
    | ret u => exact I.after hq
    | next => exact False.elim hq
    | brk => exact False.elim hq
    | cont => exact False.elim hq

theorem pe_call (F : FnOk X.prog X.w X.K X.mg X.base CX k f fd ps sp) (hr : Room k X.A) (hg : Gl X x) (hm : X.mg x = some (.ref f)) (hk : PySem.W.keepIn X.K (.ref f) = true) (hb : Binds X.K fd ps ds) (hd : Vals dvs ds) (hx : Passes CX X E)
    (ha : PA X (e :: es) t) (hdb : (x == ("__debug__" : Str)) = false := by decide) (he : starEach (e :: es) X.env = (false, eval e X.env) :: starEach es X.env := by rfl) (hpl : (backTo pos (starEach es X.env)).any (·.1) = false := by rfl) :
    PE X (.Call (.Name x p) (e :: es) [] pos) (tCall sp dvs E t) := by
  intro pins s σ H Q I h
  refine wpAny_Call_Name_kw (ld_glob I hg hm ?_ hdb)
  refine PySem.W.callWith_K (h₀ := X.base) I.ok.mod.kin hk (thn (ha pos pins s σ H _ I h) fun us s1 ⟨vs, H1, I1, r, q⟩ => ⟨I1.kIn, ?_⟩) he hpl
  exact run_fn F hr hb hd hx I1 r q
/-- what a class must have to be made -/
structure Mk (K : PySem.W.Frag) (C f : Addr) : Prop where
  makes : PySem.W.makesIn K C = true
  init : PySem.W.findIn K (.ref C) "__init__" = some (some (.ref f))
  fn : PySem.W.isFn K (.ref f) = true
  kp : PySem.W.keepIn K (.ref C) = true

end

/-! ### keywords -/
section
variable {X : Cx} {CX : CXT} {k : Nat} {f C : Addr} {fd : FuncData} {ps ks : List Str} {sp : Sp} {E : XK} {x m : Str} {p pos apos kpos : Pos} {e o : Expr} {es : List Expr} {kws : List Keyword} {te ta : TE} {t tk : TA} {nm : Option Str}
/-- how a call with keywords binds: g puts the positional values us and the keywords' values ws (names ks) in the parameters' order, defaults among them -/
structure KBinds (K : PySem.W.Frag) (fd : FuncData) (ps ks : List Str) (g : List Value → List Value → List Value) (gV : List V → List V → List V) : Prop where
  to : ∀ (s : Shared) (us ws : List Value), K.In s.heap → (g us ws).length = ps.length → BindsTo s fd ⟨us, ks.zip ws⟩ (ps.zip (g us ws))
  rel : ∀ {vs : List V} {us : List Value} {zs : List V} {ws : List Value}, Vals vs us → Vals zs ws → Vals (gV vs zs) (g us ws)
variable {g : List Value → List Value → List Value} {gV : List V → List V → List V}
end

/-! ### a def's body keeps its promise -/
/-- names: the parameters first -/
structure FnScope (N P : List Str) (sc : Scope) : Prop where
  kind : sc.kind = .function
  co : sc.isCoroutine = false
  gen : sc.isGenerator = false
  nd : N.Nodup
  pre : N.take P.length = P
  par : ∀ x ∈ P, sc.names.lookup x = some .local ∨ sc.names.lookup x = some .cell
  nofree : ∀ y ∈ sc.names, y.2 ≠ .free

theorem bindL_out {kindOf : Str → Option NameKind} {x : Str} : ∀ {binds : List (Str × Value)} {m : Str → Option Value}, (∀ v, (x, v) ∉ binds) → bindL kindOf binds m x = m x
  | [], _, _ => rfl
  | (n, v) :: r, m, h => by
    unfold bindL
    rw [bindL_out fun w hw => h w (List.mem_cons_of_mem _ hw)]
    split
    · have : x ≠ n := by rintro rfl; exact h v List.mem_cons_self
      simp [this]
    · rfl
theorem bindC_out {kindOf : Str → Option NameKind} {x : Str} : ∀ {binds : List (Str × Value)} {m : Str → Option Value}, (∀ v, (x, v) ∉ binds) → bindC kindOf binds m x = m x
  | [], _, _ => rfl
  | (n, v) :: r, m, h => by
    unfold bindC
    rw [bindC_out fun w hw => h w (List.mem_cons_of_mem _ hw)]
    split
    · rfl
    · have : x ≠ n := by rintro rfl; exact h v List.mem_cons_self
      simp [this]
theorem bindL_get {kindOf : Str → Option NameKind} {x : Str} {v : Value} : ∀ {P : List Str} {vs : List Value} {i : Nat} {m : Str → Option Value}, P.Nodup → P[i]? = some x → vs[i]? = some v → kindOf x = some .local →
    bindL kindOf (P.zip vs) m x = some v
  | [], _, _, _, _, h, _, _ => by simp at h
  | _ :: _, [], _, _, _, _, h, _ => by simp at h
  | p :: P, w :: vs, 0, m, nd, h1, h2, hk => by
    simp at h1 h2; subst h1; subst h2
    show bindL kindOf ((p, w) :: P.zip vs) m p = _
    unfold bindL
    rw [bindL_out fun v hv => (List.nodup_cons.mp nd).1 (List.of_mem_zip hv).1, if_pos hk]
    simp
  | p :: P, w :: vs, i + 1, m, nd, h1, h2, hk => by
    show bindL kindOf ((p, w) :: P.zip vs) m x = _
    unfold bindL
    exact bindL_get (i := i) (List.nodup_cons.mp nd).2 (by simpa using h1) (by simpa using h2) hk
theorem bindC_get {kindOf : Str → Option NameKind} {x : Str} {v : Value} : ∀ {P : List Str} {vs : List Value} {i : Nat} {m : Str → Option Value}, P.Nodup → P[i]? = some x → vs[i]? = some v → kindOf x ≠ some .local →
    bindC kindOf (P.zip vs) m x = some v
  | [], _, _, _, _, h, _, _ => by simp at h
  | _ :: _, [], _, _, _, _, h, _ => by simp at h
  | p :: P, w :: vs, 0, m, nd, h1, h2, hk => by
    simp at h1 h2; subst h1; subst h2
    show bindC kindOf ((p, w) :: P.zip vs) m p = _
    unfold bindC
    rw [bindC_out fun v hv => (List.nodup_cons.mp nd).1 (List.of_mem_zip hv).1, if_neg hk]
    simp
  | p :: P, w :: vs, i + 1, m, nd, h1, h2, hk => by
    show bindC kindOf ((p, w) :: P.zip vs) m x = _
    unfold bindC
    exact bindC_get (i := i) (List.nodup_cons.mp nd).2 (by simpa using h1) (by simpa using h2) hk

/-- the names' values at the entry -/
def start (N : List Str) (vs : List V) : St := vs.map some ++ List.replicate (N.length - vs.length) none

/-- the context of a def's body, at its entry; an exception leaves the frame, then lies as CX says -/
def cxOf (CX : CXT) (P : Program) (w : World) (K : PySem.W.Frag) (mg : Str → Option Value) (base : Heap) (N : List Str) (qual : Str) (scope : Scope) (f : Addr) (cd : Value) (A : Around) (outer : List Env) (s : Shared) (H : Hp) (E : XK) : Cx where
  prog := P
  w := w
  K := K
  mg := mg
  base := base
  A := A.deeper (envOfC qual scope s.heap.objs.size f cd)
  N := N
  s_0 := s
  H_0 := H
  env := envOfC qual scope s.heap.objs.size f cd
  outer := outer
  stack := envOfC qual scope s.heap.objs.size f cd :: outer
  ex := []
  calm := true
  fn := fun _ => true
  pn := []
  xe := fun e s' => wpAny (model P w) (A.deeper (envOfC qual scope s.heap.objs.size f cd)) (leaving (envOfC qual scope s.heap.objs.size f cd) e) (fun _ s'' => CX outer H s E e s'') (fun e' s'' => CX outer H s E e' s'') s'

theorem cell_has {sc : Scope} {n : Nat} {x : Str} (h : sc.names.lookup x = some .cell) : ∃ c, (cellsFrom n sc.names []).lookup x = some c := by
  have q := PySem.W.cellsFrom_some sc.names n [] (.inl h)
  exact Option.isSome_iff_exists.mp q

theorem inv_start {CX : CXT} {P : Program} {w : World} {K : PySem.W.Frag} {mg : Str → Option Value} {base : Heap} {N ps : List Str} {qual : Str} {scope : Scope} {f : Addr} {cd : Value} {A : Around} {outer : List Env} {s s1 : Shared} {H : Hp} {E : XK} {us : List Value} {vs : List V}
    (S : FnScope N ps scope) (hd : A.handled = none) (e0 : Env0 P w K mg base A outer s H) (hl : vs.length = ps.length) (r : Vals vs us)
    (x : InCallC s s.heap.objs.size (bindL (envOfC qual scope s.heap.objs.size f cd).kindOf (ps.zip us) fun _ => none) (cellsFrom (s.heap.objs.size + 1) scope.names []) (bindC (envOfC qual scope s.heap.objs.size f cd).kindOf (ps.zip us) fun _ => none) s1) :
    Inv (cxOf CX P w K mg base N qual scope f cd A outer s H E) [] (start N vs) H s1 := by
  have hpl : ps.length ≤ N.length := by have := congrArg List.length S.pre; rw [List.length_take] at this; omega
  obtain ⟨h1, tk, rfl, hk⟩ := x.done
  have noA : ∀ b : Addr, b ∉ (cxOf CX P w K mg base N qual scope f cd A outer s H E).ex := fun b z => absurd (show b ∈ ([] : List Addr) from z) (by simp)
  refine ⟨⟨e0.mod, S.kind, rfl, rfl, Nat.le_refl _, fun y z c h1 h2 => ?_, fun y hy => ?_, fun y c _ h => ?_, fun _ => hd, Around.frames_deeper e0.frames, .inr ⟨rfl, rfl⟩, fun b z => absurd z (noA b), e0.bs, e0.bsz, fun b _ _ => noA b, fun b z => absurd z (noA b), e0.funs, e0.frf⟩,
    rfl, e0.bare, Un.kept hk, ⟨_, x.toInCall.ns, fun i y v h1 h2 h3 => ?_⟩, fun y c h => ⟨_, x.cell y c h⟩, e0.hok.fresh (Nat.le_refl _), fun y c h => ?_, fun p hp => absurd (show p ∈ ([] : List (Addr × Obj)) from hp) (by simp), e0.hok.kept hk, ?_⟩
  · exact name_of_addr x.apart (PySem.mem_of_lookup h1) (PySem.mem_of_lookup h2)
  · have hy : scope.names.lookup y = some .cell ∨ scope.names.lookup y = some .free := hy
    rcases hy with hy | hy
    · exact cell_has hy
    · exact absurd rfl (S.nofree _ (PySem.mem_of_lookup hy))
  · exact Nat.le_of_lt (x.above y c (PySem.mem_of_lookup h))
  · have hi : i < vs.length := by
      unfold start at h2
      by_cases hi : i < vs.length
      · exact hi
      · rw [List.getElem?_append_right (by simpa using hi)] at h2
        rw [List.getElem?_replicate] at h2
        split at h2 <;> cases h2
    have ha : vs[i]? = some v := by
      unfold start at h2
      rw [List.getElem?_append_left (by simpa using hi), List.getElem?_map] at h2
      cases e : vs[i]? with
      | none => rw [e] at h2; cases h2
      | some a => rw [e] at h2; cases h2; rfl
    obtain ⟨u, hu, rv⟩ := r.get ha
    have hp : ps[i]? = some y := by
      rw [← S.pre, List.getElem?_take_of_lt (by omega)]; exact h1
    have ndP : ps.Nodup := by rw [← S.pre]; exact S.nd.sublist (List.take_sublist _ _)
    refine ⟨u, rv, ?_⟩
    rcases S.par y (List.mem_of_getElem? hp) with k | k
    · exact .inl ⟨k, bindL_get ndP hp hu k⟩
    · obtain ⟨c, e⟩ := cell_has (n := s.heap.objs.size + 1) k
      refine .inr ⟨.inl k, c, e, ?_⟩
      have q := x.cell y c e
      rw [bindC_get ndP hp hu (by show scope.names.lookup y ≠ _; rw [k]; decide)] at q
      exact q
  · exact e0.hok.fresh (Nat.le_of_lt (x.above y c (PySem.mem_of_lookup h)))
  · unfold start
    show _ = N.length
    rw [List.length_append, List.length_map, List.length_replicate]
    omega

/-- THE RULE: a def (or a method) of the text, by its body. The body's reading t is chosen for each entry; it is run at the parameters' values -/
theorem fn_of {CX : CXT} {P : Program} {w : World} {K : PySem.W.Frag} {mg : Str → Option Value} {base : Heap} {k : Nat} {f : Addr} {name qual : Str} {params : Arguments} {body : List Stmt} {scope : Scope} {dV kV doc pm cdv ct oc : Value} {an od : Option Addr}
    {osl : Array (Option Value)} {N ps : List Str} {sp : Sp} (lk : K.lookup f = some ⟨oc, od, .func (PySem.W.fnOf name qual params body scope dV kV doc pm an cdv ct), osl⟩) (hcd : PySem.W.codeIn K cdv qual = true) (S : FnScope N ps scope)
    (len : ∀ vs H Q E, sp vs H Q E → vs.length = ps.length)
    (hbody : ∀ (A : Around) (outer : List Env) (s : Shared) (H : Hp) (vs : List V) (Q : VK) (E : XK), Room k (A.deeper (envOfC qual scope s.heap.objs.size f cdv)) → sp vs H Q E →
      ∃ t, PSs (cxOf CX P w K mg base N qual scope f cdv A outer s H E) body t ∧ t { nx := fun _ H' => Q .non H', rt := Q } (start N vs) H) :
    FnOk P w K mg base CX (k + 1) f (PySem.W.fnOf name qual params body scope dV kV doc pm an cdv ct) ps sp := by
  refine ⟨len, fun A outer s H args us vs Q E hr e0 hb r hsp => ?_⟩
  have hl := len _ _ _ _ hsp
  have KX : K.In s.heap := e0.mod.kin.keeps fun b o e => (e0.bs b o e).1
  have lim : s.heap.NoLimit := e0.mod.nolimit.keeps fun b o e => (e0.bs b o e).1
  have hkind : ∀ y ∈ ps.zip us, scope.names.lookup y.1 = some .local ∨ (scope.names.lookup y.1 = some .cell ∧ ((cellsFrom (s.heap.objs.size + 1) scope.names []).lookup y.1).isSome = true) := fun ⟨n, v⟩ hy => by
    rcases S.par n (List.of_mem_zip hy).1 with q | q
    · exact .inl q
    · exact .inr ⟨q, PySem.W.cellsFrom_some _ _ _ (.inl q)⟩
  refine codeAny_call_function hr.depth (KX _ _ lk) rfl S.co S.gen rfl (PySem.W.codeRec_of KX hcd) (hb _ _ _ _ ?_)
  refine wpAny_newFunctionEnv_cells S.kind hkind fun env he s1 x => ?_
  subst he
  refine ⟨lim.keeps x.toInCall.keep, codeAny_func ?_⟩
  obtain ⟨t, ht, hq⟩ := hbody A outer s H vs Q E (hr.deeper _) hsp
  have I : Inv (cxOf CX P w K mg base N qual scope f cdv A outer s H E) [] (start N vs) H s1 := inv_start S hr.hd e0 hl r x
  refine wpAny_mono (ht [] s1 (start N vs) H _ I hq) (fun fl s' hs => ?_) fun e s' hs => hs
  have fin : ∀ {σ' : St} {H' : Hp} {v : V} {u : Value}, Inv (cxOf CX P w K mg base N qual scope f cdv A outer s H E) [] σ' H' s' → RelV v u → Q v H' → CE outer P w H s Q u s' :=
    fun {σ' H' v u} J rv q => ⟨v, H', J.os, J.bare, J.base, J.hok, rv, q⟩
  cases fl with
  | ret u =>
    obtain ⟨v, σ', H', J, rv, q⟩ := hs
    exact fin J rv q
  | next =>
    obtain ⟨σ', H', J, q⟩ := hs
    exact fin (v := V.non) (u := Value.none) J rfl q
  | brk =>
    obtain ⟨_, _, _, q⟩ := hs
    exact False.elim q
  | cont =>
    obtain ⟨_, _, _, q⟩ := hs
    exact False.elim q
end L2

namespace L2
open PySem PySem.Spec PyProof.Rows
section
variable {X : Cx} {x : Str} {p pos : Pos} {e : Expr} {es : List Expr} {t : TA} {id T : String} {r : List V → Hp → VK → Prop}

def tCB (r : List V → Hp → VK → Prop) (t : TA) : TE := fun σ H Q => t σ H fun vs H1 => r vs H1 Q
/-- f(e, ..), f a built-in function -/
theorem pe_callB (hc : CallR X (.builtin id) r) (hg : Gl X x) (hm : X.mg x = none) (hv : bootBuiltins x = some (.builtin id)) (ha : PA X (e :: es) t) (hn : x ≠ "__name__" := by decide) (hdb : (x == ("__debug__" : Str)) = false := by decide)
    (he : starEach (e :: es) X.env = (false, eval e X.env) :: starEach es X.env := by rfl) (hpl : (backTo pos (starEach es X.env)).any (·.1) = false := by rfl) : PE X (.Call (.Name x p) (e :: es) [] pos) (tCB r t) := by
  intro pins s σ H Q I h
  refine wpAny_Call_Name_kw (ld_blt I hg hm hv ?_ hn hdb)
  exact PyProof.Rows.callWith_builtin1 (thn (ha pos pins s σ H _ I h) fun us s1 ⟨vs, H1, I1, r1, q1⟩ => hc pins s1 σ H1 vs us Q I1 r1 q1) he hpl
/-- T(e, ..), T a built-in type -/
theorem pe_callTy (hc : CallR X (.type T) r) (hg : Gl X x) (hm : X.mg x = none) (hv : bootBuiltins x = some (.type T)) (ha : PA X (e :: es) t) (hn : x ≠ "__name__" := by decide) (hdb : (x == ("__debug__" : Str)) = false := by decide)
    (he : starEach (e :: es) X.env = (false, eval e X.env) :: starEach es X.env := by rfl) (hpl : (backTo pos (starEach es X.env)).any (·.1) = false := by rfl) : PE X (.Call (.Name x p) (e :: es) [] pos) (tCB r t) := by
  intro pins s σ H Q I h
  refine wpAny_Call_Name_kw (ld_blt I hg hm hv ?_ hn hdb)
  exact PyProof.Rows.callWith_type1 (thn (ha pos pins s σ H _ I h) fun us s1 ⟨vs, H1, I1, r1, q1⟩ => hc pins s1 σ H1 vs us Q I1 r1 q1) he hpl
end
end L2

namespace HT
open PySem PyProof.Rows

/-- t < u of tuples of ints -/
def lexLt : List Int → List Int → Bool
  | [], [] => false
  | [], _ :: _ => true
  | _ :: _, [] => false
  | x :: xs, y :: ys => if x = y then lexLt xs ys else decide (x < y)
theorem lexLt_cons (x y : Int) (xs ys : List Int) : lexLt (x :: xs) (y :: ys) = if x = y then lexLt xs ys else decide (x < y) := rfl
theorem lexLt_nil_nil : lexLt [] [] = false := rfl
theorem lexLt_nil_cons (y : Int) (ys : List Int) : lexLt [] (y :: ys) = true := rfl
theorem lexLt_cons_nil (x : Int) (xs : List Int) : lexLt (x :: xs) [] = false := rfl

theorem eqAt_int (A : Around) (s : Shared) (a : Int) (t : Tok) (c : Int) (u : Tok) : ∃ e, SeqAt.EqAt A s (.int a t) (.int c u) e ∧ (e = true ↔ a = c) :=
  ⟨(a == c), SeqAt.EqAt.int_int a t c u, by simp⟩
theorem rcLt_int (A : Around) (s : Shared) (a : Int) (t : Tok) (c : Int) (u : Tok) (prog : Program) (w : World) (E : Value → Shared → Prop) (Q : Value → Shared → Prop) (h : Q (.bool (decide (a < c))) s) :
    wpAny (model prog w) A (richCompare .Lt (.int a t) (.int c u)) Q E s :=
  (PyProof.Rows.lt_int h : wpAny (model prog w) A (compareOp .Lt (.int a t) (.int c u)) Q E s)

section
open PySem.SeqAt
open PySem.AutoSeq1 (wpAny_loadPart')
open PySem.MeetsSeq PySem.MeetsSeq2 PySem.MeetsSeq3

theorem tuple_lt_ints (l b : Addr) (items items2 : Array Value) (n n2 : Nat) (dd dd2 : Option Addr) (sl sl2 : Array (Option Value)) (ns ms : List Int) (hi : IntsAre items.toList ns) (hj : IntsAre items2.toList ms) :
    Meets (Builtin.«tuple.__lt__» ⟨[.ref l, .ref b], []⟩)
      (fun _ R s => s.heap.get? l = some { cls := .type "tuple", dict := dd, data := .seq items n, slots := sl } ∧ s.heap.get? b = some { cls := .type "tuple", dict := dd2, data := .seq items2 n2, slots := sl2 } ∧
        R (.ok (.ret (.bool (lexLt ns ms)))) s) :=
  .of_wp fun prog w A R s h => by
    obtain ⟨hp, g, d, tk, os⟩ := s; obtain ⟨hl, hb, h⟩ := h
    have f2 := AutoSeq1.sub_tuple_tuple
    have z1 : items.size = ns.length := by rw [← hi.length]; simp
    have z2 : items2.size = ms.length := by rw [← hj.length]; simp
    wp_walk using wpAny_loadPart' hl, wpAny_loadPart' hb, wpAny_forIn_list _ (fun rest b s' => b.1 = none ∧ s' = ⟨hp, g, d, tk, os⟩ ∧ ∃ (vs ws : List Value) (ns' ms' : List Int), rest = vs.zip ws ∧
      IntsAre vs ns' ∧ IntsAre ws ms' ∧ ns'.length + items2.size = ms'.length + items.size ∧ R (.ok (.ret (.bool (lexLt ns' ms')))) ⟨hp, g, d, tk, os⟩) _
    case turn =>
      rintro ⟨y, x⟩ rest b s' ⟨hb', rfl, vs, ws, ns', ms', hz, hvi, hwi, hlen, hR⟩
      cases hvi with
      | nil => rw [List.zip_nil_left] at hz; cases hz
      | cons a t hvi' =>
        cases hwi with
        | nil => rw [List.zip_nil_right] at hz; cases hz
        | cons c u hwi' =>
          rw [List.zip_cons_cons] at hz
          injection hz with hyx hrest
          injection hyx with hy hx
          subst hy hx
          rw [lexLt_cons] at hR
          simp only [List.length_cons] at hlen
          obtain ⟨e, he, hiff⟩ := eqAt_int A.in1 ⟨hp, g, d, tk, os⟩ a t c u
          refine wpAny_bind (he prog w _ _ ?_)
          cases e with
          | true =>
            rw [if_pos (hiff.mp rfl)] at hR
            wp_walk
            exact ⟨rfl, rfl, _, _, _, _, hrest, hvi', hwi', by omega, hR⟩
          | false =>
            rw [if_neg (fun q => absurd (hiff.mpr q) Bool.false_ne_true)] at hR
            have hri := rcLt_int A.in1 ⟨hp, g, d, tk, os⟩ a t c u prog w
            wp_walk using hri
            exact ⟨_, rfl, by simpa using hR⟩
    case fin =>
      rintro ⟨b1, b2⟩ s' ⟨hb', rfl, vs, ws, ns', ms', hz, hvi, hwi, hlen, hR⟩
      simp only at hb'
      subst hb'
      have hv : lexLt ns' ms' = decide (items.size < items2.size) := by
        cases hvi with
        | nil =>
          cases hwi with
          | nil =>
            simp only [List.length_nil] at hlen
            rw [lexLt_nil_nil]
            exact (decide_eq_false (by omega)).symm
          | cons c u hw =>
            simp only [List.length_nil, List.length_cons] at hlen
            rw [lexLt_nil_cons]
            exact (decide_eq_true (by omega)).symm
        | cons a t hv =>
          cases hwi with
          | nil =>
            simp only [List.length_nil, List.length_cons] at hlen
            rw [lexLt_cons_nil]
            exact (decide_eq_false (by omega)).symm
          | cons c u hw =>
            rw [List.zip_cons_cons] at hz
            cases hz
      rw [hv] at hR
      wp_walk
      exact ⟨_, rfl, by simpa [Builtin.Tuple.tupleCompareSizes] using hR⟩
    case h =>
      exact ⟨rfl, rfl, items.toList, items2.toList, ns, ms, rfl, hi, hj, by omega, h⟩
end

section
variable {prog : Program} {w : World} {A : Around} {E : Value → Shared → Prop} {s : Shared}

theorem lt_tupInts {l b : Addr} {items items2 : Array Value} {ns ms : List Int} {Q : Value → Shared → Prop} (hl : IsTup s.heap l items) (hb : IsTup s.heap b items2) (hi : IntsAre items.toList ns) (hj : IntsAre items2.toList ms)
    (hu : A.units < cLine) (h : Q (.bool (lexLt ns ms)) s) : wpAny (model prog w) A (compareOp .Lt (.ref l) (.ref b)) Q E s := by
  obtain ⟨⟨cls, dd, data, sl⟩, ho, hc, n, hd⟩ := id hl
  obtain ⟨⟨cls2, dd2, data2, sl2⟩, ho2, hc2, n2, hd2⟩ := id hb
  simp only at hc hd hc2 hd2
  subst hc hd hc2 hd2
  exact richCompare_meets_room (op := .Lt) ⟨_, ho, rfl⟩ ⟨_, ho2, rfl⟩ PySem.F.slot_tuple_lt PySem.F.entry_tuple_lt (PySem.F.args_tuple_lt_2 _ _) (tuple_lt_ints l b items items2 n n2 dd dd2 sl sl2 ns ms hi hj)
    ⟨ho, ho2, show Value.bool (lexLt ns ms) ≠ Value.notImplemented ∧ Q (.bool (lexLt ns ms)) s from ⟨(fun x => nomatch x), h⟩⟩ hu

/-- t + u, t not empty -/
theorem cat_tup {t b : Addr} {vs ws : List Value} {Q : Value → Shared → Prop} (ht : IsTup s.heap t vs.toArray) (hb : IsTup s.heap b ws.toArray) (hv : vs ≠ [])
    (h1 : ws = [] → Q (.ref t) s) (h2 : ws ≠ [] → Q (.ref s.heap.objs.size) { s with heap := s.heap.push { cls := .type "tuple", data := .seq (vs ++ ws).toArray } })
    (hsz : vs.length + ws.length ≤ sizeLine) : wpAny (model prog w) A (binaryOp .Add (.ref t) (.ref b)) Q E s := by
  obtain ⟨⟨cls, dd, data, sl⟩, ho, hc, n, hd⟩ := id ht
  obtain ⟨⟨cls2, dd2, data2, sl2⟩, ho2, hc2, n2, hd2⟩ := id hb
  simp only at hc hd hc2 hd2
  subst hc hd hc2 hd2
  have e : vs.toArray ++ ws.toArray = (vs ++ ws).toArray := by simp
  by_cases hw : ws = []
  · exact concat_meets ⟨_, ho, rfl⟩ ⟨_, ho2, rfl⟩ noFill_tuple_add seq_tuple_add PySem.F.slot_tuple_add PySem.F.entry_tuple_add (PySem.F.args_tuple_add_2 _ _)
      (tuple_addW1 t b vs.toArray ws.toArray n n2 dd dd2 sl sl2 (by simpa using hv) (by simp [hw])) ⟨ho, ho2, h1 hw⟩
  · refine concat_meets ⟨_, ho, rfl⟩ ⟨_, ho2, rfl⟩ noFill_tuple_add seq_tuple_add PySem.F.slot_tuple_add PySem.F.entry_tuple_add (PySem.F.args_tuple_add_2 _ _)
      (tuple_addW2 t b vs.toArray ws.toArray n n2 dd dd2 sl sl2 (by simpa using hv) (by simpa using hw) (by rw [List.size_toArray, List.size_toArray]; exact hsz)) ⟨ho, ho2, ?_⟩
    rw [e]
    exact h2 hw

/-! ### t[a:b], not the whole -/
/-- a slice's bound as a place among n (d where it is left out) -/
def sIx (n d : Nat) : Option Int → Nat
  | none => d
  | some v => if v < 0 then (v + (n : Int)).toNat else min v.toNat n
theorem sIx_nat (n d k : Nat) : sIx n d (some (k : Int)) = min k n := by
  show (if (k : Int) < 0 then ((k : Int) + (n : Int)).toNat else min (k : Int).toNat n) = min k n
  rw [if_neg (by omega), Int.toNat_natCast]
theorem sIx_le (n d : Nat) (hd : d ≤ n) (o : Option Int) : sIx n d o ≤ n := by
  cases o with
  | none => exact hd
  | some v =>
    show (if v < 0 then (v + (n : Int)).toNat else min v.toNat n) ≤ n
    by_cases hv : v < 0
    · rw [if_pos hv]; omega
    · rw [if_neg hv]; exact Nat.min_le_right _ _
theorem clip_eq (v : Int) (n d : Nat) : (if v < 0 then max (v + (n : Int)) 0 else min v (n : Int)) = ((sIx n d (some v) : Nat) : Int) := by
  show (if v < 0 then max (v + (n : Int)) 0 else min v (n : Int)) = (((if v < 0 then (v + (n : Int)).toNat else min v.toNat n) : Nat) : Int)
  by_cases hv : v < 0
  · simp only [if_pos hv]; omega
  · simp only [if_neg hv]; omega
theorem adjust_gen (lo hi : Option Int) (n : Nat) : Builtin.Slice.sliceAdjust lo hi 1 (n : Int) = (((sIx n 0 lo : Nat) : Int), ((sIx n n hi : Nat) : Int)) := by
  have h1 : ¬ ((1 : Int) < 0) := by omega
  unfold Builtin.Slice.sliceAdjust
  simp only [h1, if_false]
  refine Prod.ext ?_ ?_
  · cases lo with
    | none => rfl
    | some v => exact clip_eq v n 0
  · cases hi with
    | none => rfl
    | some v => exact clip_eq v n n
theorem places_gen (i j : Nat) : Builtin.Slice.slicePlaces (i : Int) (j : Int) 1 = j - i := by
  unfold Builtin.Slice.slicePlaces
  have h1 : (1 : Int) > 0 := by omega
  simp only [h1, if_true, Int.ediv_one]
  split <;> omega
theorem slicePart_ {v : Value} {o : Option Int} {Q : Option Int → Shared → Prop} (p : IsPart v o) (h : Q o s) : wpAny (model prog w) A (Builtin.Slice.slicePartIndex v) Q E s := by
  cases p with
  | none => exact slicePart_none h
  | int i t => exact slicePart_int h
theorem sliceApplied_gen {sl : Addr} {vl vu : Value} {lo hi : Option Int} {n : Nat} {Q : Int × Int × Nat → Shared → Prop} (hs : s.heap.IsSliceOf sl vl vu .none) (pl : IsPart vl lo) (pu : IsPart vu hi)
    (h : Q (((sIx n 0 lo : Nat) : Int), 1, sIx n n hi - sIx n 0 lo) s) : wpAny (model prog w) A (Builtin.Slice.sliceApplied (.ref sl) (pure (n : Int))) Q E s := by
  obtain ⟨os, hos, hcs, hds⟩ := id hs
  unfold Builtin.Slice.sliceApplied Builtin.Slice.sliceFields
  refine wpAny_bind (wpAny_bind (wpAny_field hos hds (x := vl) rfl (wpAny_bind (wpAny_field hos hds (x := vu) rfl (wpAny_bind (wpAny_field hos hds (x := .none) rfl (wpAny_pure ?_)))))))
  refine wpAny_bind (slicePart_none ?_)
  show wpAny _ _ (if ((1 : Int) == 0) = true then _ else _) _ _ s
  rw [if_neg (by decide)]
  refine wpAny_bind (slicePart_ pl (wpAny_bind (slicePart_ pu (wpAny_bind (wpAny_pure ?_)))))
  show wpAny _ _ (match Builtin.Slice.sliceAdjust lo hi 1 (n : Int) with | (lo, hi) => pure (lo, (1 : Int), Builtin.Slice.slicePlaces lo hi 1)) _ _ s
  rw [adjust_gen lo hi n]
  show wpAny _ _ (pure (((sIx n 0 lo : Nat) : Int), (1 : Int), Builtin.Slice.slicePlaces ((sIx n 0 lo : Nat) : Int) ((sIx n n hi : Nat) : Int) 1)) _ _ s
  rw [places_gen]
  exact wpAny_pure h
theorem pick_gen (xs : Array Value) (i k : Nat) : ((List.range k).filterMap fun (m : Nat) => xs[((i : Int) + (m : Int) * 1).toNat]?).toArray = ((xs.toList.drop i).take k).toArray := by
  have e : (fun (m : Nat) => xs[((i : Int) + (m : Int) * 1).toNat]?) = fun m => xs[i + m]? := by
    funext m
    have : ((i : Int) + (m : Int) * 1).toNat = i + m := by omega
    rw [this]
  rw [e]
  have := pick_run xs i k
  rw [List.filterMap_map] at this
  have e2 : ((fun x => xs[x]?) ∘ fun x => i + x) = fun m => xs[i + m]? := rfl
  rw [e2] at this
  rw [this]

theorem getItem_tuple_cut {t sl : Addr} {items : Array Value} {vl vu : Value} {lo hi : Option Int} {Q : Value → Shared → Prop} (ht : IsTup s.heap t items) (hs : s.heap.IsSliceOf sl vl vu .none) (pl : IsPart vl lo) (pu : IsPart vu hi)
    (hw : ¬ (sIx items.size 0 lo = 0 ∧ sIx items.size items.size hi = items.size))
    (h : Q (.ref s.heap.objs.size) { s with heap := s.heap.push { cls := .type "tuple", data := .seq ((items.toList.drop (sIx items.size 0 lo)).take (sIx items.size items.size hi - sIx items.size 0 lo)).toArray } })
    (hsz : items.size ≤ sizeLine) : wpAny (model prog w) A (getItem (.ref t) (.ref sl)) Q E s := by
  have htake : sizeOk (.seq ((items.toList.drop (sIx items.size 0 lo)).take (sIx items.size items.size hi - sIx items.size 0 lo)).toArray) := by
    show ((items.toList.drop (sIx items.size 0 lo)).take (sIx items.size items.size hi - sIx items.size 0 lo)).toArray.size ≤ sizeLine
    rw [List.size_toArray, List.length_take, List.length_drop, Array.length_toList]
    omega
  have hj : sIx items.size items.size hi ≤ items.size := sIx_le _ _ (Nat.le_refl _) hi
  obtain ⟨os, hos, hcs, hds⟩ := id hs
  have hTs : s.TypeIs (.ref sl) "slice" := ⟨os, hos, hcs⟩
  unfold getItem
  try with_reducible refine wpAny_holding ?_
  first | refine wpAny_bind (wpAny_pure ?_) | skip
  refine wpAny_bind (wpAny_sequenceKey ht.typeIs (by decide) ?_)
  refine wpAny_bind (wpAny_callSpecial?_slot (name := Str.ofString "__getitem__") ht.typeIs PyProof.Rows.slot_tuple_getitem
    (wpAny_call_entry PyProof.Rows.slot_tuple_getitem ht.typeIs entry_tuple_getitem ?_ (args_tuple_getitem _ _)))
  show wpAny _ _ (Builtin.Tuple.tupleItemsOf (.ref t) >>= _) _ _ s
  refine wpAny_bind (tupleItemsOf_ ht ?_)
  refine wpAny_bind (wpAny_typeOf hTs ?_)
  rw [if_pos (by decide)]
  refine wpAny_bind (sliceApplied_gen hs pl pu ?_)
  have hno : ¬ ((((sIx items.size 0 lo : Nat) : Int) == 0 && (1 : Int) == 1 && (sIx items.size items.size hi - sIx items.size 0 lo) == items.size) = true) := by
    intro q
    rw [Bool.and_eq_true, Bool.and_eq_true] at q
    have q1 : ((sIx items.size 0 lo : Nat) : Int) = 0 := eq_of_beq q.1.1
    have q2 : sIx items.size items.size hi - sIx items.size 0 lo = items.size := eq_of_beq q.2
    exact hw ⟨by omega, by omega⟩
  show wpAny _ _ (if (((sIx items.size 0 lo : Nat) : Int) == 0 && (1 : Int) == 1 && (sIx items.size items.size hi - sIx items.size 0 lo) == items.size) = true then _ else _) _ _ s
  rw [if_neg hno, pick_gen]
  first
    | exact wpAny_bind (m := Builtin.Tuple.tupleExact _) (wpAny_newObj_type (wpAny_pure ⟨_, rfl, wpAny_pure h⟩) htake)
    | exact wpAny_bind (m := Builtin.Tuple.tupleExact _) (wpAny_newObj_type (wpAny_bind (wpAny_pure (wpAny_pure ⟨_, rfl, wpAny_pure h⟩))) htake)
    | exact wpAny_bind (wpAny_bind (m := Builtin.Tuple.tupleExact _) (wpAny_newObj_type (wpAny_pure (wpAny_pure ⟨_, rfl, wpAny_pure h⟩)) htake))
    | exact wpAny_bind (wpAny_bind (m := Builtin.Tuple.tupleExact _) (wpAny_newObj_type (wpAny_pure ⟨_, rfl, wpAny_pure h⟩) htake))
end
end HT

namespace L2
open PySem PySem.Spec PyProof.Rows

/-! ### the parts of a slice -/
abbrev TO := St → Hp → (Option Int → Hp → Prop) → Prop
/-- a slice's part (left out, or an int) -/
def PO (X : Cx) (e : Option Expr) (t : TO) : Prop :=
  ∀ (pins : List (Addr × Obj)) (s : Shared) (σ : St) (H : Hp) (Q : Option Int → Hp → Prop), Inv X pins σ H s → t σ H Q →
    wpAny (model X.prog X.w) X.A (evalPart e X.env) (fun u s' => ∃ o H', Inv X pins σ H' s' ∧ IsPart u o ∧ Q o H') X.xe s
def tNoPart : TO := fun _ H Q => Q none H
def tPart (t : TE) : TO := fun σ H Q => t σ H fun x H1 => ∃ i, x = .int i ∧ Q (some i) H1

theorem intsAre_of {ns : List Int} : ∀ {us : List Value}, Vals (ns.map V.int) us → IntsAre us ns := by
  induction ns with
  | nil => intro us r; rw [List.map_nil] at r; cases r; exact .nil
  | cons n ns ih =>
    intro us r
    rw [List.map_cons] at r
    cases r with
    | cons r1 r2 =>
      obtain ⟨t, e⟩ := r1
      subst e
      exact .cons n t (ih r2)

section
variable {X : Cx} {e : Expr} {te : TE} {lo hi : Option Expr} {tl th : TO} {pos p2 : Pos}

theorem po_none : PO X none tNoPart := by
  intro pins s σ H Q I h
  rw [evalPart_none]
  exact wpAny_pure ⟨none, H, I, .none, h⟩
theorem po_some (h : PE X e te) : PO X (some e) (tPart te) := by
  intro pins s σ H Q I hw
  rw [evalPart_some]
  refine thn (h pins s σ H _ I hw) fun u s1 ⟨x, H1, I1, r1, q1⟩ => ?_
  obtain ⟨i, rfl, q⟩ := q1
  obtain ⟨t, rfl⟩ := r1
  exact ⟨some i, H1, I1, .int i t, q⟩

/-- what a slice of a value is, by values: the slice object stands at sl -/
def SlR (X : Cx) (r : V → Option Int → Option Int → Hp → VK → Prop) : Prop :=
  ∀ (pins : List (Addr × Obj)) (s : Shared) (σ : St) (H : Hp) (x : V) (v vl vu : Value) (lo hi : Option Int) (sl : Addr) (Q : VK), Inv X pins σ H s → RelV x v → s.heap.IsSliceOf sl vl vu .none → IsPart vl lo → IsPart vu hi → r x lo hi H Q →
    ∃ T id, typeLookup (.type T) "__getitem__" = pure (some (.builtin id)) ∧ s.TypeIs v T ∧ wpAny (model X.prog X.w) X.A (getItem v (.ref sl)) (EP X pins σ Q) X.xe s
theorem SlR.or {r r' : V → Option Int → Option Int → Hp → VK → Prop} (h : SlR X r) (h' : SlR X r') : SlR X (fun x lo hi H Q => r x lo hi H Q ∨ r' x lo hi H Q) := by
  intro pins s σ H x v vl vu lo hi sl Q I rx hs pl pu q
  rcases q with q | q
  · exact h pins s σ H x v vl vu lo hi sl Q I rx hs pl pu q
  · exact h' pins s σ H x v vl vu lo hi sl Q I rx hs pl pu q
def tSl (r : V → Option Int → Option Int → Hp → VK → Prop) (te : TE) (tl th : TO) : TE := fun σ H Q => te σ H fun x H1 => tl σ H1 fun l H2 => th σ H2 fun u H3 => r x l u H3 Q
/-- a[lo:hi], any a -/
theorem pe_slice {r : V → Option Int → Option Int → Hp → VK → Prop} (hr : SlR X r) (he : PE X e te) (hl : PO X lo tl) (hu : PO X hi th) : PE X (.Subscript e (.Slice lo hi none p2) pos) (tSl r te tl th) := by
  intro pins s σ H Q I h
  refine Subscript_ (thn (he pins s σ H _ I h) fun v s1 ⟨x, H1, I1, r1, q1⟩ => ?_)
  refine wpAny_Slice (thn (hl pins s1 σ H1 _ I1 q1) fun vl s2 ⟨l, H2, I2, pl, q2⟩ => thn (hu pins s2 σ H2 _ I2 q2) fun vu s3 ⟨u, H3, I3, pu, q3⟩ => ?_)
  rw [evalPart_none]
  refine wpAny_pure ?_
  have I4 : Inv X pins σ H3 { s3 with heap := s3.heap.push { cls := .type "slice", data := .fields #[vl, vu, .none] } } := I3.kept (t' := s3.toks) fun b ob q => Heap.get?_push_of_some _ q
  obtain ⟨T, id, hT, ht, hg⟩ := hr pins { s3 with heap := s3.heap.push { cls := .type "slice", data := .fields #[vl, vu, .none] } } σ H3 x v vl vu l u s3.heap.objs.size Q I4 r1 (Heap.IsSliceOf.new ..) pl pu q3
  show wpAny (model X.prog X.w) X.A (subscriptTail e (.Slice lo hi none p2) v (.ref s3.heap.objs.size)) (EP X pins σ Q) X.xe { s3 with heap := s3.heap.push { cls := .type "slice", data := .fields #[vl, vu, .none] } }
  exact tail_any (ops := [.ref s3.heap.objs.size, v]) ht hT hg (by with_unfolding_all rfl)

/-- the items of xs[lo:hi] -/
def cutV (xs : List V) (lo hi : Option Int) : List V := (xs.drop (HT.sIx xs.length 0 lo)).take (HT.sIx xs.length xs.length hi - HT.sIx xs.length 0 lo)
theorem cutV_length (xs : List V) (lo hi : Option Int) : (cutV xs lo hi).length ≤ xs.length := by
  unfold cutV
  rw [List.length_take, List.length_drop]
  omega
/-- t[lo:hi], not the whole of it (the whole would be t itself) -/
def rSlT (K : PySem.W.Frag) : V → Option Int → Option Int → Hp → VK → Prop := fun x lo hi H Q => ∃ a xs, x = .ref a ∧ SqT K H a xs ∧
  ¬ (HT.sIx xs.length 0 lo = 0 ∧ HT.sIx xs.length xs.length hi = xs.length) ∧ ∀ p, H p = none → Q (.ref p) (upd H p (.tup (cutV xs lo hi)))
theorem sl_tup : SlR X (rSlT X.K) := by
  intro pins s σ H x v vl vu lo hi sl Q I rx hs pl pu h
  obtain ⟨a, xs, rfl, hx, hw, q⟩ := h
  cases rx
  obtain ⟨its, r, ht, hz⟩ := I.tuple hx
  have hlen : its.toArray.size = xs.length := by rw [List.size_toArray]; exact r.length.symm
  refine ⟨"tuple", _, PyProof.Rows.slot_tuple_getitem.lookup, ht.typeIs, ?_⟩
  refine HT.getItem_tuple_cut ht hs pl pu (by rw [hlen]; exact hw) ?_ (by rw [hlen]; exact hz)
  rw [hlen]
  refine ⟨.ref s.heap.objs.size, _, I.laid (t' := s.toks) (o := .tup (cutV xs lo hi)) (fun b ob q => Heap.get?_push_of_some _ q) (Nat.le_refl _) ?_, rfl, q _ (I.hok.fresh (Nat.le_refl _))⟩
  exact ⟨Nat.le_trans (cutV_length xs lo hi) hz, _, (r.drop (HT.sIx xs.length 0 lo)).take (HT.sIx xs.length xs.length hi - HT.sIx xs.length 0 lo), IsTup.new _ _⟩

/-! ### t < u, t + u -/
def rLtT (K : PySem.W.Frag) : R2 := fun x y H Q => ∃ a b ns ms, x = .ref a ∧ y = .ref b ∧ SqT K H a (ns.map V.int) ∧ SqT K H b (ms.map V.int) ∧ Q (.bl (HT.lexLt ns ms)) H
theorem op_ltT (hu : X.A.units < cLine) : OpR X (compareOp .Lt) (rLtT X.K) := by
  intro pins s σ H x y v u Q I rx ry h
  obtain ⟨a, b, ns, ms, rfl, rfl, ha, hb, q⟩ := h
  cases rx
  cases ry
  obtain ⟨its, r1, p1, _⟩ := I.tuple ha
  obtain ⟨its2, r2, p2, _⟩ := I.tuple hb
  have i1 : IntsAre its.toArray.toList ns := intsAre_of r1
  have i2 : IntsAre its2.toArray.toList ms := intsAre_of r2
  exact HT.lt_tupInts p1 p2 i1 i2 hu ⟨.bl (HT.lexLt ns ms), H, I, rfl, q⟩
/-- t + u, t not empty: u empty gives t itself -/
def rCatT (K : PySem.W.Frag) : R2 := fun x y H Q => ∃ a b xs ys, x = .ref a ∧ y = .ref b ∧ SqT K H a xs ∧ SqT K H b ys ∧ xs ≠ [] ∧ xs.length + ys.length ≤ sizeLine ∧
  (ys = [] → Q (.ref a) H) ∧ (ys ≠ [] → ∀ p, H p = none → Q (.ref p) (upd H p (.tup (xs ++ ys))))
theorem Vals.nil_iff {xs : List V} {us : List Value} (r : Vals xs us) : us = [] ↔ xs = [] := by
  cases r with
  | nil => simp
  | cons _ _ => simp
theorem op_catT : OpR X (binaryOp .Add) (rCatT X.K) := by
  intro pins s σ H x y v u Q I rx ry h
  obtain ⟨a, b, xs, ys, rfl, rfl, ha, hb, hx, hz, q1, q2⟩ := h
  cases rx
  cases ry
  obtain ⟨its, r1, p1, _⟩ := I.tuple ha
  obtain ⟨its2, r2, p2, _⟩ := I.tuple hb
  refine HT.cat_tup p1 p2 (fun z => hx (r1.nil_iff.mp z)) (fun z => ⟨.ref a, H, I, rfl, q1 (r2.nil_iff.mp z)⟩) (fun z => ?_) (by rw [← r1.length, ← r2.length]; exact hz)
  refine ⟨.ref s.heap.objs.size, _, I.laid (t' := s.toks) (o := .tup (xs ++ ys)) (fun b ob q => Heap.get?_push_of_some _ q) (Nat.le_refl _) ?_, rfl, q2 (fun w => z (r2.nil_iff.mpr w)) _ (I.hok.fresh (Nat.le_refl _))⟩
  exact ⟨by rw [List.length_append]; exact hz, _, r1.append r2, IsTup.new _ _⟩
end
end L2

namespace L2
open PySem PySem.Spec PyProof.Rows

/-! ### places -/
/-- the place that an index of any sign means -/
def ixN (n : Nat) (i : Int) : Option Nat := if 0 ≤ i then (if i < n then some i.toNat else none) else if -(n : Int) ≤ i then some (i + n).toNat else none
def atI {α : Type} (xs : List α) (i : Int) : Option α := (ixN xs.length i).bind fun j => xs[j]?
theorem ixN_seq {n : Nat} {i : Int} {j : Nat} (h : ixN n i = some j) : seqIndex? i n = some j ∧ j < n ∧ -(n : Int) ≤ i ∧ i < n := by
  unfold ixN at h
  by_cases h0 : 0 ≤ i
  · rw [if_pos h0] at h
    by_cases h1 : i < n
    · rw [if_pos h1] at h
      have e : i.toNat = j := Option.some.inj h
      exact ⟨by rw [seqIndex_of h0 h1, e], by omega, by omega, h1⟩
    · rw [if_neg h1] at h; cases h
  · rw [if_neg h0] at h
    by_cases h1 : -(n : Int) ≤ i
    · rw [if_pos h1] at h
      have e : (i + n).toNat = j := Option.some.inj h
      exact ⟨by rw [seqIndex_neg (by omega) h1, e], by omega, h1, by omega⟩
    · rw [if_neg h1] at h; cases h
theorem atI_get {α : Type} {xs : List α} {i : Int} {v : α} (h : atI xs i = some v) : ∃ j, seqIndex? i xs.length = some j ∧ xs[j]? = some v ∧ j < xs.length ∧ -(xs.length : Int) ≤ i ∧ i < xs.length := by
  unfold atI at h
  cases e : ixN xs.length i with
  | none => rw [e] at h; cases h
  | some j =>
    rw [e] at h
    obtain ⟨h1, h2, h3, h4⟩ := ixN_seq e
    exact ⟨j, h1, h, h2, h3, h4⟩
/-! ### what may be subscripted -/
/-- what stands as an index of a plain subscript -/
def PlainIx (b : Expr) : Prop := ∀ o i, subscripted b false o i = operate [o, i] (getItem o i)
/-- a subscript by values -/
def IxR (X : Cx) (r : R2) : Prop :=
  ∀ (value slice : Expr) (pins : List (Addr × Obj)) (s : Shared) (σ : St) (H : Hp) (x y : V) (v u : Value) (Q : VK), Inv X pins σ H s → RelV x v → RelV y u → r x y H Q →
    subscripted slice false v u = operate [v, u] (getItem v u) → wpAny (model X.prog X.w) X.A (subscriptTail value slice v u) (EP X pins σ Q) X.xe s
/-- a call of a builtin's method by values: the receiver, the arguments -/
def MtR (X : Cx) (id : String) (r : V → List V → Hp → VK → Prop) : Prop :=
  ∀ (pins : List (Addr × Obj)) (s : Shared) (σ : St) (H : Hp) (x : V) (xs : List V) (v : Value) (us : List Value) (Q : VK), Inv X pins σ H s → RelV x v → Vals xs us → r x xs H Q →
    wpAny (model X.prog X.w) X.A (call (.builtin id) (v :: us)) (EP X pins σ Q) X.xe s
section
variable {X : Cx} {a b : Expr} {ta tb : TE} {pos : Pos}
theorem IxR.or {r r' : R2} (h : IxR X r) (h' : IxR X r') : IxR X (fun x y H Q => r x y H Q ∨ r' x y H Q) := by
  intro value slice pins s σ H x y v u Q I rx ry q hs
  rcases q with q | q
  · exact h value slice pins s σ H x y v u Q I rx ry q hs
  · exact h' value slice pins s σ H x y v u Q I rx ry q hs
theorem MtR.or {id : String} {r r' : V → List V → Hp → VK → Prop} (h : MtR X id r) (h' : MtR X id r') : MtR X id (fun x xs H Q => r x xs H Q ∨ r' x xs H Q) := by
  intro pins s σ H x xs v us Q I rx rs q
  rcases q with q | q
  · exact h pins s σ H x xs v us Q I rx rs q
  · exact h' pins s σ H x xs v us Q I rx rs q
/-- a[b] -/
theorem pe_ix {r : R2} (hr : IxR X r) (ha : PE X a ta) (hb : PE X b tb) (hs : PlainIx b) : PE X (.Subscript a b pos) (tOp r ta tb) := by
  intro pins s σ H Q I h
  exact Subscript_ (binT ha hb I h fun v u s2 x y H2 I2 rx ry q => hr a b pins s2 σ H2 x y v u Q I2 rx ry q (hs _ _))

def rIxL (K : PySem.W.Frag) : R2 := fun x y H Q => ∃ p xs i v, x = .ref p ∧ y = .int i ∧ SqL K H p xs ∧ atI xs i = some v ∧ Q v H
def rIxT (K : PySem.W.Frag) : R2 := fun x y H Q => ∃ p xs i v, x = .ref p ∧ y = .int i ∧ SqT K H p xs ∧ atI xs i = some v ∧ Q v H
def rIxS : R2 := fun x y H Q => ∃ z i c, x = .str z ∧ y = .int i ∧ z.length ≤ sizeLine ∧ atI z.cps.toList i = some c ∧ Q (.str ⟨#[c]⟩) H
theorem ix_list : IxR X (rIxL X.K) := by
  intro value slice pins s σ H x y v u Q I rx ry h hs
  obtain ⟨p, xs, i, z, rfl, rfl, hq, he, q⟩ := h
  cases rx
  obtain ⟨t, rfl⟩ := ry
  obtain ⟨its, r, pl, hz⟩ := I.list hq
  obtain ⟨j, h1, h2, h3, h4, h5⟩ := atI_get he
  obtain ⟨w, ew, rw'⟩ := r.get h2
  have hl := r.length
  have hn := line63
  have fin : EP X pins σ Q w s := ⟨z, H, I, rw', q⟩
  by_cases h0 : 0 ≤ i
  · have hj : i.toNat = j := by
      rw [seqIndex_of h0 h5] at h1
      exact Option.some.inj h1
    exact item_listR pl.isList h0 (by omega) (by rw [hj]; simpa using ew) fin hs
  · have hj : (i + (its.toArray.size : Int)).toNat = j := by
      rw [seqIndex_neg (by omega) h4] at h1
      rw [List.size_toArray, ← hl]
      exact Option.some.inj h1
    exact subscriptTail_builtinR (x := w) pl.isList.typeIs slot_list_getitem.lookup
      (wpAny_getItem_list_neg (Q := fun r s' => r = w ∧ EP X pins σ Q r s') pl.isList (by omega) (by rw [List.size_toArray] <;> omega) (by omega) (by rw [hj]; simpa using ew) ⟨rfl, fin⟩) hs
theorem ix_tup : IxR X (rIxT X.K) := by
  intro value slice pins s σ H x y v u Q I rx ry h hs
  obtain ⟨p, xs, i, z, rfl, rfl, hq, he, q⟩ := h
  cases rx
  obtain ⟨t, rfl⟩ := ry
  obtain ⟨its, r, pl, hz⟩ := I.tuple hq
  obtain ⟨j, h1, h2, h3, h4, h5⟩ := atI_get he
  obtain ⟨w, ew, rw'⟩ := r.get h2
  have hl := r.length
  have hn := line63
  have fin : EP X pins σ Q w s := ⟨z, H, I, rw', q⟩
  exact subscriptTail_builtinR (x := w) pl.typeIs slot_tuple_getitem.lookup
    (getItem_tuple (j := j) (Q := fun r s' => r = w ∧ EP X pins σ Q r s') pl (by omega) (by omega) (by rw [List.size_toArray, ← hl]; exact h1) (by simpa using ew) ⟨rfl, fin⟩) hs
theorem ix_str : IxR X rIxS := by
  intro value slice pins s σ H x y v u Q I rx ry h hs
  obtain ⟨z, i, c, rfl, rfl, hz, he, q⟩ := h
  obtain ⟨t, rfl⟩ := rx
  obtain ⟨t', rfl⟩ := ry
  obtain ⟨j, h1, h2, h3, h4, h5⟩ := atI_get he
  have hl : z.cps.toList.length = z.length := by simp [Str.length]
  rw [hl] at h1 h4 h5
  have hn := line63
  exact tail_any (typeIs_str s z t) slot_str_getitem.lookup (getItem_str (c := c) (by
    have e1 : decide (i < -(2 ^ 63 : Int)) = false := decide_eq_false (by omega)
    have e2 : decide (i ≥ 2 ^ 63) = false := decide_eq_false (by omega)
    rw [e1, e2, Bool.or_false]) (by rw [h1]; simpa using h2) ⟨.str ⟨#[c]⟩, H, I.tok _, ⟨_, rfl⟩, q⟩) hs
/-- list, tuple or str -/
def rIx (K : PySem.W.Frag) : R2 := fun x y H Q => rIxL K x y H Q ∨ rIxT K x y H Q ∨ rIxS x y H Q
theorem ix_seq : IxR X (rIx X.K) := ix_list.or (ix_tup.or ix_str)

/-! ### xs[i] = v, any sign -/
/-- the list's object behind a store -/
theorem mapSeq_set (its : List Value) (n j : Nat) (u : Value) : Obj.mapSeq (·.setIfInBounds j u) { cls := .type "list", data := .seq its.toArray n } = { cls := .type "list", data := .seq (its.set j u).toArray n } := by
  simp [Obj.mapSeq]
theorem Inv.lst {pins : List (Addr × Obj)} {σ : St} {H : Hp} {s : Shared} {p : Addr} {xs : List V} (I : Inv X pins σ H s) (h : H p = some (.lst xs)) :
    ∃ (its : List Value) (n : Nat), Vals xs its ∧ s.heap.get? p = some { cls := .type "list", data := .seq its.toArray n } ∧ xs.length ≤ sizeLine := by
  obtain ⟨z, its, n, r, e⟩ := I.hok p _ h
  exact ⟨its, n, r, e, z⟩
/-- the list at p is written by an update of its object -/
theorem Inv.lstUpd {pins : List (Addr × Obj)} {σ : St} {H : Hp} {s : Shared} {p : Addr} {xs ys : List V} {its its' : List Value} {n n' : Nat} {f : Obj → Obj} (I : Inv X pins σ H s) (h : H p = some (.lst xs))
    (ho : s.heap.get? p = some { cls := .type "list", data := .seq its.toArray n }) (hf : f { cls := .type "list", data := .seq its.toArray n } = { cls := .type "list", data := .seq its'.toArray n' }) (r : Vals ys its') (hz : ys.length ≤ sizeLine) (t : Nat) :
    Inv X pins σ (upd H p (.lst ys)) { s with heap := s.heap.update p f, toks := t } := by
  have e : (s.heap.update p f).get? p = some { cls := .type "list", data := .seq its'.toArray n' } := by
    rw [Heap.get?_update_self f ho (by rw [hf] <;> rfl), hf]
  refine I.write (x := p) (e := p) (by rw [h]; trivial) (.inl rfl) (fun b u hb q => (Heap.get?_update_other _ _ (Ne.symm hb)).trans q) ⟨_, e⟩ ?_
  exact ⟨hz, its', n', r, e⟩
def rSetL : V → V → V → Hp → (Hp → Prop) → Prop := fun o i v H Q => ∃ p xs k j, o = .ref p ∧ i = .int k ∧ H p = some (.lst xs) ∧ ixN xs.length k = some j ∧ Q (upd H p (.lst (xs.set j v)))
theorem set_list : PSet X rSetL := by
  intro pins s σ H o i v ov iv u Q I ro ri rv h
  obtain ⟨p, xs, k, j, rfl, rfl, hp, hj, q⟩ := h
  cases ro
  obtain ⟨t, rfl⟩ := ri
  obtain ⟨its, n, r, ho, hz⟩ := I.lst hp
  obtain ⟨h1, h2, h3, h4⟩ := ixN_seq hj
  have hl := r.length
  have hn := line63
  have I' : Inv X pins σ (upd H p (.lst (xs.set j v))) { s with heap := s.heap.update p (Obj.mapSeq (·.setIfInBounds j u)) } :=
    I.lstUpd hp ho (mapSeq_set its n j u) (r.set rv j) (by rw [List.length_set]; exact hz) s.toks
  by_cases h0 : 0 ≤ k
  · have hk : k.toNat = j := by
      rw [seqIndex_of h0 h4] at h1
      exact Option.some.inj h1
    exact PySem.W.ki_setAt ho h0 (by omega) (by rw [List.size_toArray, ← hl]; exact h4) (by rw [hk]; exact ⟨_, I', q⟩)
  · have hk : (k + (its.toArray.size : Int)).toNat = j := by
      rw [seqIndex_neg (by omega) h3] at h1
      rw [List.size_toArray, ← hl]
      exact Option.some.inj h1
    exact PySem.W.ki_setBack ho (by omega) (by rw [List.size_toArray, ← hl]; exact h3) (by omega) (by rw [hk]; exact ⟨_, I', q⟩)

/-! ### slices -/
theorem slice_bounds (lo hi : Option Int) (n : Nat) : (sliceBounds lo hi none n).1 = ((HT.sIx n 0 lo : Nat) : Int) ∧ (sliceBounds lo hi none n).2.1 = ((HT.sIx n n hi : Nat) : Int) ∧ (sliceBounds lo hi none n).2.2 = 1 := by
  refine ⟨?_, ?_, rfl⟩
  · cases lo with
    | none => simp [sliceBounds, HT.sIx]
    | some i =>
      simp only [sliceBounds, HT.sIx, Option.getD_none, show (1 : Int) > 0 by decide, if_true]
      by_cases h : i < 0
      · simp only [h, if_true] <;> omega
      · simp only [h, if_false] <;> omega
  · cases hi with
    | none => simp [sliceBounds, HT.sIx]
    | some i =>
      simp only [sliceBounds, HT.sIx, Option.getD_none, show (1 : Int) > 0 by decide, if_true]
      by_cases h : i < 0
      · simp only [h, if_true] <;> omega
      · simp only [h, if_false] <;> omega
theorem slicePick_cut (its : List Value) (lo hi : Option Int) : slicePick its.toArray lo hi none = ((its.drop (HT.sIx its.length 0 lo)).take (HT.sIx its.length its.length hi - HT.sIx its.length 0 lo)).toArray := by
  obtain ⟨h1, h2, h3⟩ := slice_bounds lo hi its.toArray.size
  unfold slicePick
  rw [h1, h2, h3]
  simp only [sliceRange_one, pick_run, List.size_toArray] <;> rfl
/-- xs[lo:hi] of a list: a new list -/
def rSlL (K : PySem.W.Frag) : V → Option Int → Option Int → Hp → VK → Prop := fun x lo hi H Q => ∃ a xs, x = .ref a ∧ SqL K H a xs ∧ ∀ p, H p = none → Q (.ref p) (upd H p (.lst (cutV xs lo hi)))
theorem sl_list : SlR X (rSlL X.K) := by
  intro pins s σ H x v vl vu lo hi sl Q I rx hs pl pu h
  obtain ⟨a, xs, rfl, hx, q⟩ := h
  cases rx
  obtain ⟨its, r, ht, hz⟩ := I.list hx
  have hlen := r.length
  refine ⟨"list", _, slot_list_getitem.lookup, ht.isList.typeIs, ?_⟩
  refine wpAny_getItem_list_slice ht.isList hs pl pu .none (by simp) ?_ (by rw [List.size_toArray] <;> omega)
  rw [slicePick_cut, ← hlen]
  refine ⟨.ref s.heap.objs.size, _, I.laid (t' := s.toks) (o := .lst (cutV xs lo hi)) (fun b ob q => Heap.get?_push_of_some _ q) (Nat.le_refl _) ?_, rfl, q _ (I.hok.fresh (Nat.le_refl _))⟩
  exact ⟨Nat.le_trans (cutV_length xs lo hi) hz, _, 0, (r.drop (HT.sIx xs.length 0 lo)).take (HT.sIx xs.length xs.length hi - HT.sIx xs.length 0 lo), Heap.get?_push_size _ rfl⟩

/-! ### in, not in: flat items -/
def flatV : V → Bool
  | .non => true
  | .bl _ => true
  | .int _ => true
  | .str _ => true
  | _ => false
/-- == of flat values -/
def eqV : V → V → Bool
  | .non, .non => true
  | .bl a, .bl b => a == b
  | .bl a, .int b => (if a then 1 else 0) == b
  | .int a, .bl b => a == (if b then 1 else 0)
  | .int a, .int b => a == b
  | .str a, .str b => a == b
  | _, _ => false
theorem eqAt_V {A : Around} {s : Shared} {y x : V} {u v : Value} (ry : RelV y u) (rx : RelV x v) (fy : flatV y = true) (fx : flatV x = true) : SeqAt.EqAt A s u v (eqV y x) := by
  cases y with
  | non =>
    cases ry
    cases x with
    | non => cases rx; exact SeqAt.EqAt.same _
    | bl b => cases rx; exact SeqAt.EqAt.none_bool b
    | int b => obtain ⟨t, rfl⟩ := rx; exact SeqAt.EqAt.none_int b t
    | str b => obtain ⟨t, rfl⟩ := rx; exact SeqAt.EqAt.none_str b t
    | _ => exact absurd (show false = true from fx) Bool.false_ne_true
  | bl a =>
    cases ry
    cases x with
    | non => cases rx; exact SeqAt.EqAt.bool_none a
    | bl b => cases rx; exact SeqAt.EqAt.bool_bool a b
    | int b => obtain ⟨t, rfl⟩ := rx; exact SeqAt.EqAt.bool_int a b t
    | str b => obtain ⟨t, rfl⟩ := rx; exact SeqAt.EqAt.bool_str a b t
    | _ => exact absurd (show false = true from fx) Bool.false_ne_true
  | int a =>
    obtain ⟨t', rfl⟩ := ry
    cases x with
    | non => cases rx; exact SeqAt.EqAt.int_none a t'
    | bl b => cases rx; exact SeqAt.EqAt.int_bool a t' b
    | int b => obtain ⟨t, rfl⟩ := rx; exact SeqAt.EqAt.int_int a t' b t
    | str b => obtain ⟨t, rfl⟩ := rx; exact SeqAt.EqAt.int_str a t' b t
    | _ => exact absurd (show false = true from fx) Bool.false_ne_true
  | str a =>
    obtain ⟨t', rfl⟩ := ry
    cases x with
    | non => cases rx; exact SeqAt.EqAt.str_none a t'
    | bl b => cases rx; exact SeqAt.EqAt.str_bool a t' b
    | int b => obtain ⟨t, rfl⟩ := rx; exact SeqAt.EqAt.str_int a t' b t
    | str b => obtain ⟨t, rfl⟩ := rx; exact SeqAt.EqAt.str_str a t' b t
    | _ => exact absurd (show false = true from fx) Bool.false_ne_true
  | _ => exact absurd (show false = true from fy) Bool.false_ne_true
/-- the items' answers, read off the values (a value's own answer does not lean on its token) -/
def eqU (x : V) (u : Value) : Bool := match u with
  | .none => eqV .non x
  | .bool b => eqV (.bl b) x
  | .int i _ => eqV (.int i) x
  | .str z _ => eqV (.str z) x
  | _ => false
theorem eqU_of {x y : V} {u : Value} (r : RelV y u) (f : flatV y = true) : eqU x u = eqV y x := by
  cases y with
  | non => cases r; rfl
  | bl b => cases r; rfl
  | int i => obtain ⟨t, rfl⟩ := r; rfl
  | str z => obtain ⟨t, rfl⟩ := r; rfl
  | _ => exact absurd (show false = true from f) Bool.false_ne_true
theorem any_eqU {x : V} : ∀ {xs : List V} {us : List Value}, Vals xs us → xs.all flatV = true → us.any (eqU x) = xs.any fun y => eqV y x
  | _, _, .nil, _ => rfl
  | y :: xs, u :: us, .cons r t, f => by
    rw [List.all_cons, Bool.and_eq_true] at f
    rw [List.any_cons, List.any_cons, eqU_of r f.1, any_eqU t f.2]
theorem mem_eqAt {A : Around} {s : Shared} {x : V} {v : Value} (rx : RelV x v) (fx : flatV x = true) : ∀ {xs : List V} {us : List Value}, Vals xs us → xs.all flatV = true → ∀ u ∈ us, SeqAt.EqAt A s u v (eqU x u)
  | _, _, .nil, _ => fun u hu => by cases hu
  | y :: xs, u :: us, .cons r t, f => fun u' hu => by
    rw [List.all_cons, Bool.and_eq_true] at f
    rcases List.mem_cons.mp hu with rfl | hu
    · rw [eqU_of r f.1]; exact eqAt_V r rx f.1 fx
    · exact mem_eqAt rx fx t f.2 u' hu
def inV (x : V) (xs : List V) : Bool := xs.any fun y => eqV y x
/-- x in a list or tuple of flat items -/
def rIn (K : PySem.W.Frag) (neg : Bool) : R2 := fun x y H Q => ∃ p xs, y = .ref p ∧ (SqL K H p xs ∨ SqT K H p xs) ∧ flatV x = true ∧ xs.all flatV = true ∧ Q (.bl (if neg then !inV x xs else inV x xs)) H
theorem op_in_seq : OpR X (compareOp .In) (rIn X.K false) := by
  intro pins s σ H x y v u Q I rx ry h
  obtain ⟨p, xs, rfl, hq, fx, fs, q⟩ := h
  cases ry
  rcases hq with hq | hq
  · obtain ⟨its, r, pl, hz⟩ := I.list hq
    refine SeqAt.in_listAt (eqU x) pl.isList (fun w hw => mem_eqAt rx fx r fs w (by simpa using hw)) ⟨.bl _, H, I, rfl, ?_⟩
    rw [show its.toArray.any (eqU x) = its.any (eqU x) by simp, any_eqU r fs]
    exact q
  · obtain ⟨its, r, pl, hz⟩ := I.tuple hq
    refine SeqAt.in_tupleAt (eqU x) pl (fun w hw => mem_eqAt rx fx r fs w (by simpa using hw)) ⟨.bl _, H, I, rfl, ?_⟩
    rw [show its.toArray.any (eqU x) = its.any (eqU x) by simp, any_eqU r fs]
    exact q
theorem op_notIn_seq : OpR X (compareOp .NotIn) (rIn X.K true) := by
  intro pins s σ H x y v u Q I rx ry h
  obtain ⟨p, xs, rfl, hq, fx, fs, q⟩ := h
  cases ry
  rcases hq with hq | hq
  · obtain ⟨its, r, pl, hz⟩ := I.list hq
    refine SeqAt.notIn_listAt (eqU x) pl.isList (fun w hw => mem_eqAt rx fx r fs w (by simpa using hw)) ⟨.bl _, H, I, rfl, ?_⟩
    rw [show its.toArray.any (eqU x) = its.any (eqU x) by simp, any_eqU r fs]
    exact q
  · obtain ⟨its, r, pl, hz⟩ := I.tuple hq
    refine SeqAt.notIn_tupleAt (eqU x) pl (fun w hw => mem_eqAt rx fx r fs w (by simpa using hw)) ⟨.bl _, H, I, rfl, ?_⟩
    rw [show its.toArray.any (eqU x) = its.any (eqU x) by simp, any_eqU r fs]
    exact q
/-! ### len, list(x), tuple(x) of any list or tuple that is read -/
theorem call_len_seq : CallR X (.builtin "len") (fun xs H Q => ∃ p ys, xs = [.ref p] ∧ (SqL X.K H p ys ∨ SqT X.K H p ys) ∧ Q (.int ys.length) H) := by
  intro pins s σ H xs us Q I r h
  obtain ⟨p, ys, rfl, hq, q⟩ := h
  obtain ⟨u, rfl, rx⟩ := vals1 r
  cases rx
  have hn := line63
  rcases hq with hq | hq
  · obtain ⟨its, r', pl, hz⟩ := I.list hq
    have hlen := r'.length
    exact Calls.call_len_list pl.isList (by simp only [List.size_toArray] <;> omega) ⟨.int ys.length, H, I.tok _, ⟨s.toks + 1, by rw [List.size_toArray, hlen]⟩, q⟩
  · obtain ⟨its, r', pl, hz⟩ := I.tuple hq
    have hlen := r'.length
    exact len_tuple pl (by simp only [List.size_toArray] <;> omega) ⟨.int ys.length, H, I.tok _, ⟨s.toks + 1, by rw [List.size_toArray, hlen]⟩, q⟩
theorem call_len_str : CallR X (.builtin "len") (fun xs H Q => ∃ z, xs = [.str z] ∧ z.length ≤ sizeLine ∧ Q (.int z.length) H) := by
  intro pins s σ H xs us Q I r h
  obtain ⟨z, rfl, hz, q⟩ := h
  obtain ⟨u, rfl, t, rfl⟩ := vals1 r
  have hn := line63
  exact len_str (by omega) ⟨.int z.length, H, I.tok _, ⟨_, rfl⟩, q⟩
theorem CallR.or {f : Value} {r r' : List V → Hp → VK → Prop} (h : CallR X f r) (h' : CallR X f r') : CallR X f (fun xs H Q => r xs H Q ∨ r' xs H Q) := by
  intro pins s σ H xs us Q I rs q
  rcases q with q | q
  · exact h pins s σ H xs us Q I rs q
  · exact h' pins s σ H xs us Q I rs q
theorem call_list_of : CallR X (.type "list") (fun xs H Q => ∃ p ys, xs = [.ref p] ∧ (SqL X.K H p ys ∨ SqT X.K H p ys) ∧ ∀ l, H l = none → Q (.ref l) (upd H l (.lst ys))) := by
  intro pins s σ H xs us Q I r h
  obtain ⟨p, ys, rfl, hq, q⟩ := h
  obtain ⟨u, rfl, rx⟩ := vals1 r
  cases rx
  have fin : ∀ (its : List Value), Vals ys its → ys.length ≤ sizeLine → ∀ (h' : Heap) (c' : Nat), (∀ b o', s.heap.get? b = some o' → h'.get? b = some o') →
      h'.get? s.heap.objs.size = some { cls := .type "list", dict := none, data := .seq its.toArray c', slots := #[] } → EP X pins σ Q (.ref s.heap.objs.size) { s with heap := h' } := fun its r' hz h' c' kp e =>
    ⟨.ref s.heap.objs.size, _, I.laid (t' := s.toks) kp (Nat.le_refl _) (show ObjOk X.prog X.w _ h' _ (.lst ys) from ⟨hz, its, c', r', e⟩), rfl, q _ (I.hok.fresh (Nat.le_refl _))⟩
  rcases hq with hq | hq
  · obtain ⟨its, r', pl, hz⟩ := I.list hq
    have hlen := r'.length
    obtain ⟨o, ho, hc, n, hd⟩ := pl.isList
    exact call_list_seq p (.inl rfl) ho hc hd (fun h' c' kp e => fin its r' hz h' c' kp e) (by simp only [List.size_toArray] <;> omega)
  · obtain ⟨its, r', pl, hz⟩ := I.tuple hq
    have hlen := r'.length
    obtain ⟨o, ho, hc, n, hd⟩ := pl
    exact call_list_seq p (.inr rfl) ho hc hd (fun h' c' kp e => fin its r' hz h' c' kp e) (by simp only [List.size_toArray] <;> omega)
theorem call_tuple_of : CallR X (.type "tuple") (fun xs H Q => ∃ p ys, xs = [.ref p] ∧ ((SqL X.K H p ys ∧ ∀ l, H l = none → Q (.ref l) (upd H l (.tup ys))) ∨ (SqT X.K H p ys ∧ Q (.ref p) H))) := by
  intro pins s σ H xs us Q I r h
  obtain ⟨p, ys, rfl, h⟩ := h
  obtain ⟨u, rfl, rx⟩ := vals1 r
  cases rx
  rcases h with ⟨hq, q⟩ | ⟨hq, q⟩
  · obtain ⟨its, r', pl, hz⟩ := I.list hq
    have hlen := r'.length
    refine call_tuple_list pl.isList (fun h' kp => ?_) (by simp only [List.size_toArray] <;> omega)
    have I1 : Inv X pins σ H { s with heap := h' } := I.kept (t' := s.toks) kp
    have I2 : Inv X pins σ (upd H h'.objs.size (.tup ys)) { s with heap := h'.push { cls := .type "tuple", data := .seq its.toArray } } :=
      I1.laid (t' := s.toks) (fun b o e => Heap.get?_push_of_some _ e) (Nat.le_refl _) (show ObjOk X.prog X.w _ _ _ (.tup ys) from ⟨hz, its, r', IsTup.new _ _⟩)
    exact ⟨.ref h'.objs.size, _, I2, rfl, q _ (I1.hok.fresh (Nat.le_refl _))⟩
  · obtain ⟨its, r', pl, hz⟩ := I.tuple hq
    exact call_tuple_same pl ⟨.ref p, H, I, rfl, q⟩

/-! ### the call of a builtin's method: o.m(..) -/
/-- the value is of that builtin type -/
def tyV (K : PySem.W.Frag) (T : String) (x : V) (H : Hp) : Prop := match x with
  | .str _ => T = "str"
  | .int _ => T = "int"
  | .ref p => (T = "list" ∧ ∃ xs, SqL K H p xs) ∨ (T = "tuple" ∧ ∃ o, K.lookup p = some o ∧ o.cls = .type "tuple" ∧ o.dict = none) ∨
      (T = "dict" ∧ ((∃ kvs, H p = some (.dK kvs)) ∨ ∃ kvs, H p = some (.dT kvs))) ∨ (T = "set" ∧ ∃ S n, H p = some (.set S n))
  | _ => False
variable {o e : Expr} {es : List Expr} {to : TE} {t : TA} {name : Str} {apos cpos : Pos} {T id : String} {r : V → List V → Hp → VK → Prop}
/- xs.append(e), list.index on a module's tuple .. are MtR facts of 06m -/
end
end L2

namespace L2
open PySem PySem.Spec PyProof.Rows

/-! ### lists of values -/
theorem Vals.one : ∀ {x : V} {us : List Value}, Vals [x] us → ∃ u, us = [u] ∧ RelV x u
  | _, _, .cons r .nil => ⟨_, rfl, r⟩
theorem Vals.two : ∀ {x y : V} {us : List Value}, Vals [x, y] us → ∃ u v, us = [u, v] ∧ RelV x u ∧ RelV y v
  | _, _, _, .cons r (.cons q .nil) => ⟨_, _, rfl, r, q⟩
theorem Vals.zero : ∀ {us : List Value}, Vals [] us → us = []
  | _, .nil => rfl
theorem Vals.eraseIdx : ∀ {xs : List V} {us : List Value} (i : Nat), Vals xs us → Vals (xs.eraseIdx i) (us.eraseIdx i)
  | _, _, _, .nil => .nil
  | _, _, 0, .cons _ t => t
  | _, _, i + 1, .cons r t => .cons r (Vals.eraseIdx i t)
theorem Vals.reverse {xs : List V} {us : List Value} (h : Vals xs us) : Vals xs.reverse us.reverse := by
  induction h with
  | nil => exact .nil
  | cons r t ih => rw [List.reverse_cons, List.reverse_cons]; exact Vals.append ih (.cons r .nil)
section
variable {X : Cx} {pins : List (Addr × Obj)} {σ : St} {H : Hp} {s : Shared} {l b : Addr} {xs ys zs : List V}

/-! ### the two steps: a tracked list is rewritten, a new list is laid -/
theorem Inv.lnew {its : List Value} {t' : Nat} (I : Inv X pins σ H s) (hv : Vals ys its) (hz : ys.length ≤ sizeLine) :
    Inv X pins σ (upd H s.heap.objs.size (.lst ys)) { s with heap := s.heap.push { cls := .type "list", data := .seq its.toArray }, toks := t' } :=
  I.laid (fun _ _ q => Heap.get?_push_of_some _ q) (Nat.le_refl _) ⟨hz, its, 0, hv, Heap.get?_push_size _ rfl⟩
theorem Inv.fresh (I : Inv X pins σ H s) : H s.heap.objs.size = none := I.hok.fresh (Nat.le_refl _)
theorem Inv.lstM (I : Inv X pins σ H s) (hH : H l = some (.lst xs)) : xs.length ≤ sizeLine ∧ ∃ (its : List Value) (n : Nat), Vals xs its ∧ xs.length = its.length ∧ s.heap.get? l = some { cls := .type "list", data := .seq its.toArray n } := by
  obtain ⟨z, its, n, r, e⟩ := I.hok l _ hH
  exact ⟨z, its, n, r, r.length, e⟩

end

section
variable {X : Cx}

/-! ### methods -/
/-! ### list + list, list += list, list * int -/
def rCat : R2 := fun x y H Q => ∃ l b xs zs, x = .ref l ∧ y = .ref b ∧ H l = some (.lst xs) ∧ H b = some (.lst zs) ∧ xs.length + zs.length ≤ sizeLine ∧ ∀ p, H p = none → Q (.ref p) (upd H p (.lst (xs ++ zs)))
theorem op_cat : OpR X (binaryOp .Add) rCat := by
  intro pins s σ H x y v u Q I rx ry h
  obtain ⟨l, b, xs, zs, rfl, rfl, hH, hB, hz, q⟩ := h
  cases rx
  cases ry
  obtain ⟨z, its, n, r, hl, e⟩ := I.lstM hH
  obtain ⟨z2, its2, n2, r2, hl2, e2⟩ := I.lstM hB
  refine PySem.P.add_list e e2 ?_ (by rw [List.size_toArray, List.size_toArray]; omega)
  have ea : its.toArray ++ its2.toArray = (its ++ its2).toArray := by simp
  rw [ea]
  exact ⟨.ref _, _, I.lnew (t' := s.toks) (r.append r2) (by rw [List.length_append]; omega), rfl, q _ I.fresh⟩
/-! ### del xs[i] -/
end

/-! ### xs[a:b] = ys -/
section
variable {prog : Program} {w : World} {A : Around} {E : Value → Shared → Prop} {s : Shared}
end

section
variable {X : Cx}
end
end L2

namespace L2
open PySem PySem.Spec PyProof.Rows

theorem Vals.ints : ∀ {ns : List Int} {us : List Value}, Vals (ns.map V.int) us → IntsAre us ns
  | [], us, h => by
    rw [List.map_nil] at h
    cases h
    exact IntsAre.nil
  | n :: ns, us, h => by
    rw [List.map_cons] at h
    cases h with
    | cons r t =>
      obtain ⟨k, rfl⟩ := r
      exact IntsAre.cons n k (Vals.ints t)
theorem vals_of_ints : ∀ {us : List Value} {ns : List Int}, IntsAre us ns → Vals (ns.map V.int) us
  | _, _, .nil => by rw [List.map_nil]; exact Paired.nil
  | _, _, .cons n t h => by rw [List.map_cons]; exact Paired.cons (show RelV (V.int n) (Value.int n t) from ⟨t, rfl⟩) (vals_of_ints h)
theorem Vals.strs : ∀ {xs : List Str} {us : List Value}, Vals (xs.map V.str) us → StrsAre us xs
  | [], us, h => by
    rw [List.map_nil] at h
    cases h
    exact StrsAre.nil
  | x :: xs, us, h => by
    rw [List.map_cons] at h
    cases h with
    | cons r t =>
      obtain ⟨k, rfl⟩ := r
      exact StrsAre.cons x k (Vals.strs t)
theorem Vals.ref1 {a : Addr} {us : List Value} (r : Vals [V.ref a] us) : us = [Value.ref a] := by
  cases r with
  | cons r t =>
    cases t
    cases r
    rfl
/-! ### the library's walks over a list of ints, kept objects alone -/
section
variable {prog : Program} {w : World} {A : Around} {E : Value → Shared → Prop} {s : Shared} {l : Addr} {its : List Value} {ns : List Int} {Q : Value → Shared → Prop}
end

/-! ### the calls, by values (CallR of 03t; MtR of 06l) -/
section
variable {X : Cx}
/-! sorted, sort (fewer than 64 items: the library's own bound) -/
end

/-! ### list.index, flat items -/
section
variable {X : Cx}
end

/-! ### type(x) of an own instance; is, is not of a module's class -/
section
variable {X : Cx}
end

/-! ### any(xs), all(xs) of a list of bools -/
section
variable {X : Cx}
end

/-! ### == and != of data at any depth: none, bools, ints, texts, lists, tuples -/
mutual
inductive Dp (K : PySem.W.Frag) (H : Hp) : V → PyData → Prop
  | non : Dp K H .non .none
  | bl (b : Bool) : Dp K H (.bl b) (.bool b)
  | int (i : Int) : Dp K H (.int i) (.int i)
  | str (x : Str) : Dp K H (.str x) (.str x)
  | lst {a : Addr} {xs : List V} {ds : List PyData} : SqL K H a xs → DpAll K H xs ds → Dp K H (.ref a) (.list ds)
  | tup {a : Addr} {xs : List V} {ds : List PyData} : SqT K H a xs → DpAll K H xs ds → Dp K H (.ref a) (.tuple ds)
inductive DpAll (K : PySem.W.Frag) (H : Hp) : List V → List PyData → Prop
  | nil : DpAll K H [] []
  | cons {v : V} {vs : List V} {d : PyData} {ds : List PyData} : Dp K H v d → DpAll K H vs ds → DpAll K H (v :: vs) (d :: ds)
end
section
variable {X : Cx} {pins : List (Addr × Obj)} {σ : St} {H : Hp} {s : Shared}
mutual
theorem Dp.reads (I : Inv X pins σ H s) : ∀ (d : PyData) (v : V) (u : Value), Dp X.K H v d → RelV v u → ∃ as, Reads s.heap u d as
  | .none, _, _, h, r => by
    cases h
    cases r
    exact ⟨_, Reads.none⟩
  | .bool b, _, _, h, r => by
    cases h
    cases r
    exact ⟨_, Reads.bool b⟩
  | .int i, _, _, h, r => by
    cases h
    obtain ⟨t, rfl⟩ := r
    exact ⟨_, Reads.int i t⟩
  | .str x, _, _, h, r => by
    cases h
    obtain ⟨t, rfl⟩ := r
    exact ⟨_, Reads.str x t⟩
  | .list ds, _, _, h, r => by
    cases h with
    | lst hs ha =>
      cases r
      obtain ⟨its, rv, ⟨o, n, ho, hc, _, hd⟩, _⟩ := I.list hs
      obtain ⟨as, hr⟩ := Dp.readsAll I ds _ its ha rv
      exact ⟨_, Reads.list ho hc hd hr⟩
  | .tuple ds, _, _, h, r => by
    cases h with
    | tup hs ha =>
      cases r
      obtain ⟨its, rv, ⟨o, ho, hc, n, hd⟩, _⟩ := I.tuple hs
      obtain ⟨as, hr⟩ := Dp.readsAll I ds _ its ha rv
      exact ⟨_, Reads.tuple ho hc hd hr⟩
  | .dict _, _, _, h, _ => by cases h
theorem Dp.readsAll (I : Inv X pins σ H s) : ∀ (ds : List PyData) (vs : List V) (us : List Value), DpAll X.K H vs ds → Vals vs us → ∃ as, ReadsAll s.heap us ds as
  | [], _, _, h, r => by
    cases h
    cases r
    exact ⟨_, ReadsAll.nil⟩
  | d :: ds, _, _, h, r => by
    cases h with
    | cons h1 h2 =>
      cases r with
      | cons r1 r2 =>
        obtain ⟨as, q1⟩ := Dp.reads I d _ _ h1 r1
        obtain ⟨bs, q2⟩ := Dp.readsAll I ds _ _ h2 r2
        exact ⟨_, ReadsAll.cons q1 q2⟩
end
end
section
variable {X : Cx}
def rEqD (K : PySem.W.Frag) : R2 := fun x y H Q => ∃ d e, Dp K H x d ∧ Dp K H y e ∧ SeqAt.shaped d = true ∧ SeqAt.shaped e = true ∧ Q (.bl (PyData.eqv d e)) H
def rNeD (K : PySem.W.Frag) : R2 := fun x y H Q => ∃ d e, Dp K H x d ∧ Dp K H y e ∧ SeqAt.shaped d = true ∧ SeqAt.shaped e = true ∧ Q (.bl (!PyData.eqv d e)) H
theorem op_eqD (hu : X.A.units + 64 < cLine) : OpR X (compareOp .Eq) (rEqD X.K) := by
  intro pins s σ H x y v u Q I rx ry h
  obtain ⟨d, e, hd, he, sd, se, q⟩ := h
  obtain ⟨as, r1⟩ := Dp.reads I d x v hd rx
  obtain ⟨bs, r2⟩ := Dp.reads I e y u he ry
  exact SeqAt.compareEq_shaped r1 r2 sd se hu ⟨.bl _, H, I, rfl, q⟩
theorem op_neD (hu : X.A.units + 64 < cLine) : OpR X (compareOp .NotEq) (rNeD X.K) := by
  intro pins s σ H x y v u Q I rx ry h
  obtain ⟨d, e, hd, he, sd, se, q⟩ := h
  obtain ⟨as, r1⟩ := Dp.reads I d x v hd rx
  obtain ⟨bs, r2⟩ := Dp.reads I e y u he ry
  exact SeqAt.compareNe_shaped r1 r2 sd se hu ⟨.bl _, H, I, rfl, q⟩
end
end L2

namespace L2
open PySem PySem.Spec PyProof.Rows
abbrev CellAt (h : Heap) (c : Addr) (v : Option Value) : Prop := h.IsCell c v
def relS (scope sc : Scope) : Scope :=
  { scope with names := scope.names.map fun (n, k) => if (k == .free && sc.kind == .function && sc.names.lookup n == some .cell) then (n, .cell) else (n, k) }

def cloFrom (cells : List (Str × Addr)) : List (Str × NameKind) → List (Str × Addr) → List (Str × Addr)
  | [], acc => acc
  | (n, k) :: r, acc => if k == .free then cloFrom cells r ((n, (cells.lookup n).getD 0) :: acc) else cloFrom cells r acc

theorem closure_loop (env : Env) (f : Str × NameKind → List (Str × Addr) → Sem (ForInStep (List (Str × Addr))))
    (hf : ∀ n k c, f (n, k) c = if k == .free then (do let a ← cellOf env n; pure (.yield ((n, a) :: c))) else pure (.yield c)) :
    ∀ (names : List (Str × NameKind)) (acc : List (Str × Addr)), (∀ y ∈ names, y.2 = .free → ∃ c, env.cells.lookup y.1 = some c) → forIn names acc f = pure (cloFrom env.cells names acc)
  | [], acc, _ => by rw [List.forIn_nil]; rfl
  | (n, k) :: r, acc, h => by
    rw [List.forIn_cons, hf]
    have ih := fun acc => closure_loop env f hf r acc fun y hy => h y (List.mem_cons_of_mem _ hy)
    unfold cloFrom
    by_cases hk : (k == NameKind.free) = true
    · rw [if_pos hk, if_pos hk]
      obtain ⟨c, hc⟩ := h (n, k) List.mem_cons_self (by simpa using hk)
      have e : cellOf env n = pure c := by unfold cellOf; rw [hc]
      rw [e]
      have e2 : (env.cells.lookup n).getD 0 = c := by rw [hc]; rfl
      rw [e2]
      exact ih _
    · rw [if_neg hk, if_neg hk]
      exact ih _
theorem closure_ok {scope : Scope} {env : Env} (h : ∀ y ∈ scope.names, y.2 = .free → ∃ c, env.cells.lookup y.1 = some c) : closureFor scope env = pure (cloFrom env.cells scope.names []) := by
  simp only [closureFor]
  rw [closure_loop env _ (fun n k c => rfl) scope.names [] h]
  rfl

theorem mem_lookup {α : Type} : ∀ {l : List (Str × α)} {n : Str} {c : α}, (n, c) ∈ l → ∃ c', l.lookup n = some c'
  | (k, v) :: r, n, c, h => by
    rw [List.lookup_cons]
    cases hb : n == k with
    | true => exact ⟨_, rfl⟩
    | false =>
      rcases List.mem_cons.mp h with e | h
      · cases e; simp at hb
      · exact mem_lookup h

theorem cloFrom_mem {cells : List (Str × Addr)} : ∀ {names : List (Str × NameKind)} {acc : List (Str × Addr)} {n : Str} {c : Addr}, (n, c) ∈ cloFrom cells names acc → (n, c) ∈ acc ∨ ((n, .free) ∈ names ∧ c = (cells.lookup n).getD 0)
  | [], _, _, _, h => .inl h
  | (m, k) :: r, acc, n, c, h => by
    unfold cloFrom at h
    split at h
    · rename_i hk
      have hk : k = .free := by simpa using hk
      rcases cloFrom_mem h with h | ⟨h1, h2⟩
      · rcases List.mem_cons.mp h with e | h
        · cases e; exact .inr ⟨hk ▸ List.mem_cons_self, rfl⟩
        · exact .inl h
      · exact .inr ⟨List.mem_cons_of_mem _ h1, h2⟩
    · rcases cloFrom_mem h with h | ⟨h1, h2⟩
      · exact .inl h
      · exact .inr ⟨List.mem_cons_of_mem _ h1, h2⟩
theorem cloFrom_acc {cells : List (Str × Addr)} : ∀ {names : List (Str × NameKind)} {acc : List (Str × Addr)} {p : Str × Addr}, p ∈ acc → p ∈ cloFrom cells names acc
  | [], _, _, h => h
  | (m, k) :: r, acc, p, h => by
    unfold cloFrom
    split
    · exact cloFrom_acc (List.mem_cons_of_mem _ h)
    · exact cloFrom_acc h
theorem cloFrom_has {cells : List (Str × Addr)} : ∀ {names : List (Str × NameKind)} {acc : List (Str × Addr)} {n : Str}, (n, .free) ∈ names → (n, (cells.lookup n).getD 0) ∈ cloFrom cells names acc
  | (m, k) :: r, acc, n, h => by
    unfold cloFrom
    rcases List.mem_cons.mp h with e | h
    · cases e
      exact cloFrom_acc List.mem_cons_self
    · split
      · exact cloFrom_has h
      · exact cloFrom_has h

theorem cells_mem : ∀ {names : List (Str × NameKind)} {h : Heap} {acc : List (Str × Addr)} {x : Str} {c : Addr}, (x, c) ∈ cellsFrom h.objs.size names acc →
    (x, c) ∈ acc ∨ ((x, .cell) ∈ names ∧ h.objs.size ≤ c ∧ CellAt (pushCells h names) c none)
  | [], _, _, _, _, h => .inl h
  | (n, k) :: r, h, acc, x, c, hm => by
    unfold cellsFrom at hm
    unfold pushCells
    split at hm
    · rename_i hk
      rw [if_pos hk]
      have hk : k = .cell := by simpa using hk
      rw [← Heap.size_push h { cls := .type "cell", data := .cell none }] at hm
      rcases cells_mem hm with hm | ⟨h1, h2, h3⟩
      · rcases List.mem_cons.mp hm with e | hm
        · cases e
          exact .inr ⟨hk ▸ List.mem_cons_self, Nat.le_refl _, _, pushCells_keeps r _ _ _ (Heap.get?_push_size _ rfl), rfl⟩
        · exact .inl hm
      · rw [Heap.size_push] at h2
        exact .inr ⟨List.mem_cons_of_mem _ h1, Nat.le_of_succ_le h2, h3⟩
    · rename_i hk
      rw [if_neg hk]
      rcases cells_mem hm with hm | ⟨h1, h2, h3⟩
      · exact .inl hm
      · exact .inr ⟨List.mem_cons_of_mem _ h1, h2, h3⟩
theorem cells_acc : ∀ {names : List (Str × NameKind)} {n : Nat} {acc : List (Str × Addr)} {p : Str × Addr}, p ∈ acc → p ∈ cellsFrom n names acc
  | [], _, _, _, h => h
  | (m, k) :: r, n, acc, p, h => by
    unfold cellsFrom
    split
    · exact cells_acc (List.mem_cons_of_mem _ h)
    · exact cells_acc h
theorem cells_has : ∀ {names : List (Str × NameKind)} {n : Nat} {acc : List (Str × Addr)} {x : Str}, (x, .cell) ∈ names → ∃ c, (x, c) ∈ cellsFrom n names acc
  | (m, k) :: r, n, acc, x, h => by
    unfold cellsFrom
    rcases List.mem_cons.mp h with e | h
    · cases e
      exact ⟨n, cells_acc List.mem_cons_self⟩
    · split
      · exact cells_has h
      · exact cells_has h
theorem cells_inj : ∀ {names : List (Str × NameKind)} {h : Heap} {acc : List (Str × Addr)} {x y : Str} {c : Addr}, (∀ p ∈ acc, p.2 < h.objs.size) → (∀ x y c, (x, c) ∈ acc → (y, c) ∈ acc → x = y) →
    (x, c) ∈ cellsFrom h.objs.size names acc → (y, c) ∈ cellsFrom h.objs.size names acc → x = y
  | [], _, _, _, _, _, _, hi, h1, h2 => hi _ _ _ h1 h2
  | (n, k) :: r, h, acc, x, y, c, hl, hi, h1, h2 => by
    unfold cellsFrom at h1 h2
    split at h1
    · rename_i hk
      rw [if_pos hk] at h2
      rw [← Heap.size_push h { cls := .type "cell", data := .cell none }] at h1 h2
      refine cells_inj (h := h.push _) (fun p hp => ?_) (fun x y c a b => ?_) h1 h2
      · rw [Heap.size_push]
        rcases List.mem_cons.mp hp with rfl | hp
        · exact Nat.lt_succ_self _
        · exact Nat.lt_succ_of_lt (hl p hp)
      · rcases List.mem_cons.mp a with e | a <;> rcases List.mem_cons.mp b with e' | b
        · cases e; cases e'; rfl
        · cases e; exact absurd (hl _ b) (Nat.lt_irrefl _)
        · cases e'; exact absurd (hl _ a) (Nat.lt_irrefl _)
        · exact hi _ _ _ a b
    · rename_i hk
      rw [if_neg hk] at h2
      exact cells_inj hl hi h1 h2

theorem newEnv_comp {M : Model} {A : Around} {E : Value → Shared → Prop} {s : Shared} {scope : Scope} {globals : Addr} {closure : List (Str × Addr)} {qual : Str} {func : Option Addr} {code : Value} {around : Env} {builtins : Addr} {Q : Env → Shared → Prop}
    (h : Q (newEnv scope s.heap.objs.size globals (cellsFrom (s.heap.objs.size + 1) scope.names closure) qual func code (some around) builtins)
      { s with heap := pushCells (s.heap.push { cls := .type "dict", data := .dict #[] }) scope.names }) :
    wpAny M A (newFunctionEnv scope globals closure [] qual func code (some around) builtins) Q E s := by
  simp only [newFunctionEnv, Option.isSome_some, if_true]
  refine wpAny_bind (wpAny_alloc ?_)
  refine wpAny_bind (wpAny_layCells _ (fun n k c => rfl) scope.names closure _ _ ?_)
  rw [show ({ s with heap := s.heap.push { cls := .type "dict", data := .dict #[] } } : Shared).heap.objs.size = s.heap.objs.size + 1 from Heap.size_push ..]
  rw [List.forIn_nil]
  exact wpAny_bind (wpAny_pure (wpAny_pure h))

/-- every name of the written scope, in the scope that runs -/
theorem lookup_relS {sc : Scope} : ∀ {names : List (Str × NameKind)} {x : Str} {k : NameKind},
    (names.map fun (n, k) => if (k == NameKind.free && sc.kind == .function && sc.names.lookup n == some .cell) then (n, NameKind.cell) else (n, k)).lookup x = some k →
    ∃ k', names.lookup x = some k' ∧ (k = k' ∨ (k' = .free ∧ k = .cell))
  | [], _, _, h => by simp at h
  | (n, k₀) :: r, x, k, h => by
    have ih := @lookup_relS sc r x k
    have h' : List.lookup x ((if (k₀ == NameKind.free && sc.kind == .function && sc.names.lookup n == some .cell) = true then (n, NameKind.cell) else (n, k₀)) :: (r.map _)) = some k := h
    cases hx : x == n with
    | true =>
      simp only [List.lookup_cons, hx]
      by_cases hc : (k₀ == NameKind.free && sc.kind == .function && sc.names.lookup n == some .cell) = true
      · rw [if_pos hc] at h'
        simp only [List.lookup_cons, hx] at h'
        cases h'
        simp only [Bool.and_eq_true, beq_iff_eq] at hc
        exact ⟨k₀, rfl, .inr ⟨hc.1.1, rfl⟩⟩
      · rw [if_neg hc] at h'
        simp only [List.lookup_cons, hx] at h'
        cases h'
        exact ⟨_, rfl, .inl rfl⟩
    | false =>
      simp only [List.lookup_cons, hx]
      by_cases hc : (k₀ == NameKind.free && sc.kind == .function && sc.names.lookup n == some .cell) = true
      · rw [if_pos hc] at h'
        simp only [List.lookup_cons, hx] at h'
        exact ih h'
      · rw [if_neg hc] at h'
        simp only [List.lookup_cons, hx] at h'
        exact ih h'
/-- the names of a comprehension's block: its own (with their places in N), or captured -/
structure BlkOk (N : List Str) (sc scope : Scope) (own : List (Str × Nat)) : Prop where
  kind : scope.kind = .function
  uniq : ∀ y ∈ scope.names, scope.names.lookup y.1 = some y.2
  ix : ∀ p ∈ own, N[p.2]? = some p.1
  free : ∀ y ∈ scope.names, y.2 = .free → sc.names.lookup y.1 = some .cell ∨ sc.names.lookup y.1 = some .free
  own : ∀ y ∈ scope.names, y.2 = .local ∨ y.2 = .cell → y.1 ∈ own.map (·.1) ∨ y.1 ∉ N
/-- the slots of the block's own names forgotten -/
def wipe (σ : St) : List Nat → St
  | [] => σ
  | v :: vs => (wipe σ vs).set v none
theorem wipe_length (σ : St) : ∀ vs : List Nat, (wipe σ vs).length = σ.length
  | [] => rfl
  | v :: vs => by unfold wipe; rw [List.length_set, wipe_length σ vs]
theorem wipe_some {σ : St} {i : Nat} {x : V} : ∀ {vs : List Nat}, (wipe σ vs)[i]? = some (some x) → σ[i]? = some (some x) ∧ i ∉ vs
  | [], h => ⟨h, by simp⟩
  | v :: vs, h => by
    unfold wipe at h
    by_cases hi : v = i
    · subst hi
      by_cases hv : v < (wipe σ vs).length
      · rw [List.getElem?_set_self hv] at h; cases h
      · rw [List.getElem?_eq_none (by simpa using hv)] at h; cases h
    · rw [List.getElem?_set_ne hi] at h
      obtain ⟨h1, h2⟩ := wipe_some h
      exact ⟨h1, by simp only [List.mem_cons, not_or]; exact ⟨fun e => hi e.symm, h2⟩⟩

/-- the context of a block that starts at s, its iterator's objects at fp -/
abbrev Cx.blk (X : Cx) (s : Shared) (H : Hp) (scope : Scope) (cenv : Env) (fp : List Addr) : Cx := { X with s_0 := s, H_0 := H, env := cenv, outer := X.stack, ex := fp, fn := fun x => scope.names.lookup x == some .cell, pn := [], xe := fun _ _ => False }
section
variable {X : Cx} {pins : List (Addr × Obj)} {σ : St} {H : Hp} {s : Shared}
theorem block_start {scope : Scope} {own : List (Str × Nat)} {fp : List Addr} (I : Inv X pins σ H s) (ok : BlkOk X.N X.env.scope scope own) (hN : X.N.Nodup) (hfp : ∀ b ∈ fp, FpOk X pins H b ∧ b < s.heap.objs.size) :
    Inv (X.blk s H scope (compEnvC scope (cellsFrom (s.heap.objs.size + 1) scope.names (cloFrom X.env.cells scope.names [])) s.heap.objs.size X.env) fp) [] (wipe σ (own.map (·.2))) H { s with heap := pushCells (s.heap.push { cls := .type "dict", data := .dict #[] }) scope.names } := by
  have hfree : ∀ y ∈ scope.names, y.2 = .free → ∃ c, X.env.cells.lookup y.1 = some c := fun y hy e => by
    rcases ok.free y hy e with k | k
    · exact I.ok.has _ (.inl k)
    · exact I.ok.has _ (.inr k)
  generalize hcenv : compEnvC scope (cellsFrom (s.heap.objs.size + 1) scope.names (cloFrom X.env.cells scope.names [])) s.heap.objs.size X.env = cenv
  have kp : ∀ b o, s.heap.get? b = some o → (pushCells (s.heap.push { cls := .type "dict", data := .dict #[] }) scope.names).get? b = some o := fun b o e => pushCells_keeps _ _ _ _ (Heap.get?_push_of_some _ e)
  have hL : cenv.locals = s.heap.objs.size := by rw [← hcenv]; rfl
  have hcl : cenv.cells = cellsFrom (s.heap.objs.size + 1) scope.names (cloFrom X.env.cells scope.names []) := by rw [← hcenv]; rfl
  have hsc : cenv.scope = relS scope X.env.scope := by rw [← hcenv]; rfl
  rw [← Heap.size_push s.heap { cls := .type "dict", data := .dict #[] }] at hcl
  have cm : ∀ {y c}, (y, c) ∈ cloFrom X.env.cells scope.names [] → X.env.cells.lookup y = some c ∧ c < s.heap.objs.size := fun {y c} hm => by
    rcases cloFrom_mem hm with hm | ⟨h1, rfl⟩
    · cases hm
    · obtain ⟨c, hc⟩ := hfree _ h1 rfl
      rw [hc]
      obtain ⟨w, z⟩ := I.cell _ _ hc
      exact ⟨rfl, z.lt⟩
  have mem : ∀ {y c}, cenv.cells.lookup y = some c → (X.env.cells.lookup y = some c ∧ c < s.heap.objs.size) ∨ (s.heap.objs.size + 1 ≤ c ∧ CellAt (pushCells (s.heap.push { cls := .type "dict", data := .dict #[] }) scope.names) c none) := fun {y c} e => by
    rw [hcl] at e
    rcases cells_mem (PySem.mem_of_lookup e) with hm | ⟨_, h2, h3⟩
    · exact .inl (cm hm)
    · rw [Heap.size_push] at h2; exact .inr ⟨h2, h3⟩
  have look : ∀ {y}, scope.names.lookup y = some .free → ∃ c, cenv.cells.lookup y = some c ∧ X.env.cells.lookup y = some c := fun {y} hl => by
    have hy : (y, NameKind.free) ∈ scope.names := PySem.mem_of_lookup hl
    obtain ⟨c', e'⟩ := mem_lookup (cells_acc (names := scope.names) (n := (s.heap.push { cls := .type "dict", data := .dict #[] }).objs.size) (cloFrom_has (cells := X.env.cells) (acc := []) hy))
    rw [← hcl] at e'
    refine ⟨c', e', ?_⟩
    rw [hcl] at e'
    rcases cells_mem (PySem.mem_of_lookup e') with hm | ⟨h1, _, _⟩
    · exact (cm hm).1
    · have := ok.uniq _ h1
      rw [hl] at this; cases this
  have okB : (X.blk s H scope cenv fp).Ok := by
    refine ⟨I.ok.mod, by show cenv.scope.kind = _; rw [hsc]; exact ok.kind, by show cenv.globals = _; rw [← hcenv]; exact I.ok.glob, by show cenv.builtins = _; rw [← hcenv]; exact I.ok.blt, by show s.heap.objs.size ≤ cenv.locals; rw [hL]; exact Nat.le_refl _,
      fun y z c e1 e2 => ?_, fun y hy => ?_, fun y c z e => ?_, I.ok.hd, I.ok.frames, .inl rfl, fun b hb => ⟨?_, fun y c e z => ?_⟩, I.bs, Nat.le_trans I.ok.bsz I.sz, fun b o e hb => ?_, fun b hb z => ?_, I.stack, I.stkFree⟩
    · have e1 : cenv.cells.lookup y = some c := e1
      have e2 : cenv.cells.lookup z = some c := e2
      rw [hcl] at e1 e2
      refine cells_inj (fun p hp => ?_) (fun y z c a b => I.ok.inj y z c (cm a).1 (cm b).1) (PySem.mem_of_lookup e1) (PySem.mem_of_lookup e2)
      rw [Heap.size_push]
      exact Nat.lt_succ_of_lt (cm (y := p.1) (c := p.2) hp).2
    · show ∃ c, cenv.cells.lookup y = some c
      have key : ∀ k, cenv.kindOf y = some k → (k = .cell ∨ k = .free) → ∃ c, cenv.cells.lookup y = some c := fun k hk hk' => by
        unfold Env.kindOf at hk
        rw [hsc] at hk
        obtain ⟨k', e, r⟩ := lookup_relS hk
        have : k' = .cell ∨ k' = .free := by
          rcases r with rfl | ⟨rfl, _⟩
          · exact hk'
          · exact .inr rfl
        rcases this with rfl | rfl
        · obtain ⟨c, hm⟩ := cells_has (n := (s.heap.push { cls := .type "dict", data := .dict #[] }).objs.size) (acc := cloFrom X.env.cells scope.names []) (PySem.mem_of_lookup e)
          obtain ⟨c', e'⟩ := mem_lookup hm
          exact ⟨c', by rw [hcl]; exact e'⟩
        · obtain ⟨c, h1, _⟩ := look e
          exact ⟨c, h1⟩
      rcases hy with hy | hy
      · exact key _ hy (.inl rfl)
      · exact key _ hy (.inr rfl)
    · have z : (scope.names.lookup y == some NameKind.cell) = true := z
      have z : scope.names.lookup y = some .cell := by simpa using z
      have e : cenv.cells.lookup y = some c := e
      rw [hcl] at e
      rcases cells_mem (PySem.mem_of_lookup e) with hm | ⟨_, h2, _⟩
      · rcases cloFrom_mem hm with hm | ⟨h1, _⟩
        · cases hm
        · have q := ok.uniq _ h1
          rw [z] at q; cases q
      · rw [Heap.size_push] at h2
        exact Nat.le_of_succ_le h2
    · show b ≠ cenv.locals
      rw [hL]; exact Nat.ne_of_lt (hfp b hb).2
    · have e : cenv.cells.lookup y = some c := e
      rcases mem e with ⟨h1, _⟩ | ⟨h1, _⟩
      · exact (hfp b hb).1.2.2.2.2.1 y c h1 z
      · have h2 : s.heap.objs.size + 1 ≤ b := by rw [← z]; exact h1
        exact absurd (Nat.lt_of_lt_of_le (hfp b hb).2 (Nat.le_of_succ_le h2)) (Nat.lt_irrefl _)
    · rcases (hfp b hb).1.2.2.2.1 with z | z
      · exact I.ok.noex b o e z
      · exact absurd (Nat.lt_of_lt_of_le (Heap.lt_size e) (Nat.le_trans I.ok.bsz z)) (Nat.lt_irrefl _)
    · rcases List.mem_cons.mp (I.stkSub b z) with z | z
      · exact (hfp b hb).1.2.1 z
      · exact (hfp b hb).1.2.2.1 z
  refine ⟨okB, rfl, I.bare, Un.kept kp, ⟨fun _ => none, ?_, fun i y av e1 e2 e3 => ?_⟩, fun y c e => ?_, ?_, fun y c e => ?_, fun p hp => ?_, I.hok.kept kp, by rw [wipe_length]; exact I.len⟩
  · show Heap.Ns _ cenv.locals _
    rw [hL]
    exact Heap.Ns.keeps (Heap.Ns.new ..) fun b o e => pushCells_keeps _ _ _ _ e
  · obtain ⟨e2, hne⟩ := wipe_some e2
    have hfr : scope.names.lookup y = some .free ∧ (cenv.kindOf y = some .cell ∨ cenv.kindOf y = some .free) := by
      have key : ∀ k, cenv.scope.names.lookup y = some k → k = .local ∨ k = .cell ∨ k = .free → scope.names.lookup y = some .free ∧ (cenv.kindOf y = some .cell ∨ cenv.kindOf y = some .free) := fun k hk hk' => by
        have hk0 := hk
        rw [hsc] at hk
        obtain ⟨k', e, r⟩ := lookup_relS hk
        have no : ¬ (k' = .local ∨ k' = .cell) := fun hh => by
          rcases ok.own _ (PySem.mem_of_lookup e) hh with e' | e'
          · obtain ⟨p, hp, hpy⟩ := List.mem_map.mp e'
            have e3 := ok.ix p hp
            have : p.1 = y := hpy
            rw [this] at e3
            exact hne (List.mem_map.mpr ⟨p, hp, nodup_ix hN e3 e1⟩)
          · exact e' (List.mem_of_getElem? e1)
        rcases r with rfl | ⟨rfl, rfl⟩
        · rcases hk' with rfl | rfl | rfl
          · exact absurd (.inl rfl) no
          · exact absurd (.inr rfl) no
          · exact ⟨e, .inr hk0⟩
        · exact ⟨e, .inl hk0⟩
      have e3 : Vis cenv.scope y := e3
      rcases e3 with e3 | e3 | e3
      · exact key _ e3 (.inl rfl)
      · exact key _ e3 (.inr (.inl rfl))
      · exact key _ e3 (.inr (.inr rfl))
    obtain ⟨m, hn, hl⟩ := I.loc
    have hvis : Vis X.env.scope y := (ok.free _ (PySem.mem_of_lookup hfr.1) rfl).elim (fun k => .inr (.inl k)) (fun k => .inr (.inr k))
    obtain ⟨w, r, q⟩ := hl i y av e1 e2 hvis
    refine ⟨w, r, .inr ⟨hfr.2, ?_⟩⟩
    obtain ⟨c, h1, h2⟩ := look hfr.1
    rcases q with ⟨k, _⟩ | ⟨_, c', e', z⟩
    · have k : X.env.scope.names.lookup y = some .local := k
      rcases ok.free _ (PySem.mem_of_lookup hfr.1) rfl with k' | k' <;> rw [show X.env.scope.names.lookup y = _ from k'] at k <;> cases k
    · rw [h2] at e'; cases e'
      exact ⟨c, h1, z.keeps kp⟩
  · have e : cenv.cells.lookup y = some c := e
    rcases mem e with ⟨h1, _⟩ | ⟨_, z⟩
    · obtain ⟨w, z⟩ := I.cell y c h1
      exact ⟨w, z.keeps kp⟩
    · exact ⟨_, z⟩
  · show H cenv.locals = none
    rw [hL]; exact I.hok.fresh (Nat.le_refl _)
  · have e : cenv.cells.lookup y = some c := e
    rcases mem e with ⟨h1, _⟩ | ⟨h1, _⟩
    · exact I.freeC y c h1
    · exact I.hok.fresh (Nat.le_of_succ_le h1)
  · exact absurd (show p ∈ ([] : List (Addr × Obj)) ++ [] from hp) (by simp)

/-- an item appended to a tracked list -/
theorem app_ok {E : Value → Shared → Prop} {D : Addr} {xs : List V} {y : V} {v : Value} {Q : Value → Shared → Prop} (I : Inv X pins σ H s) (hD : H D = some (.lst xs)) (hz : xs.length < sizeLine) (r : RelV y v)
    (h : ∀ s', Inv X pins σ (upd H D (.lst (xs ++ [y]))) s' → Q .none s') : wpAny (model X.prog X.w) X.A (call (.builtin "list.append") [.ref D, v]) Q E s := by
  obtain ⟨hz', its, n, ri, e⟩ := I.hok D _ hD
  have hl := ri.length
  refine append_at (hsz := by rw [List.size_toArray]; omega) e fun h' sb ho' => ?_
  refine h { s with heap := h' } (I.write (t' := s.toks) (by rw [hD]; trivial) (.inl rfl) (fun b u hb q => (sb.2 b hb).trans q) ⟨_, ho'⟩ ⟨by rw [List.length_append]; exact hz, its ++ [v], n + 1, ri.append (.cons r .nil), ?_⟩)
  rw [ho']
  simp

/-- a clause's tests -/
def PTs (X : Cx) (ifs : List Expr) (t : TT) : Prop :=
  ∀ (pins : List (Addr × Obj)) (s : Shared) (σ : St) (H : Hp) (Q : Bool → Hp → Prop), Inv X pins σ H s → t σ H Q →
    wpAny (model X.prog X.w) X.A (forIn ifs true fun c r => if r = true then do let ok ← isTrue c X.env (eval c X.env); pure (ForInStep.yield ok) else pure (ForInStep.yield r)) (TP X pins σ Q) X.xe s
def tYes : TT := fun _ H Q => Q true H
theorem pts_nil : PTs X [] tYes := fun _ _ _ H _ I h => wpAny_tests_nil ⟨H, I, h⟩
theorem pts_one {c : Expr} {t : TT} (h : PT X c t) : PTs X [c] t := fun pins s σ H Q I hw => wpAny_tests_one (h pins s σ H Q I hw)
end

theorem thnF {α : Type} {t : Sem α} {Q Q' : α → Shared → Prop} {M : Model} {A : Around} {E : Value → Shared → Prop} {s : Shared} (h : wpAny M A t Q (fun _ _ => False) s) (hQ : ∀ a s, Q a s → Q' a s) : wpAny M A t Q' E s := wpAny_mono h hQ fun _ _ z => False.elim z

/-- the loop of a list comprehension's block, the target of any form (codeAny_compLoop_tests asks a target that no tuple goes to; statement and proof follow it, PyProof/CompMap.lean:41-61, with the step letOwnedTupleGo kept) -/
theorem compLoop_any {prog : Program} {w : World} {A : Around} {R : Result → Shared → Prop} {s : Shared} {elt target iter : Expr} {ifs : List Expr} {scope : Scope} {pos : Pos} {it acc : Value} {env : Env} (I : Nat → Shared → Prop)
    (turn : ∀ n s, I n s → wpAny (model prog w) A (pyNext it) (fun r s₁ => match r with
      | none => R (.ok .next) s₁
      | some v => wpAny (model prog w) A (letOwnedTupleGo target it v) (fun _ s₁' => wpAny (model prog w) A (assign target env v) (fun _ s₂ =>
          wpAny (model prog w) A (forIn ifs true fun c r => if r = true then do let ok ← isTrue c env (eval c env); pure (ForInStep.yield ok) else pure (ForInStep.yield r)) (fun ok s₃ =>
            if ok = true then wpAny (model prog w) A (eval elt env) (fun x s₄ =>
              wpAny (model prog w) A (call (.builtin "list.append") [acc, x]) (fun _ s₅ => ∃ m, m < n ∧ I m s₅) (notedBy (model prog w) A env fun e s' => R (.error e) s') s₄) (notedBy (model prog w) A env fun e s' => R (.error e) s') s₃
            else ∃ m, m < n ∧ I m s₃) (notedBy (model prog w) A env fun e s' => R (.error e) s') s₂) (notedBy (model prog w) A env fun e s' => R (.error e) s') s₁') (notedBy (model prog w) A env fun e s' => R (.error e) s') s₁) (notedBy (model prog w) A env fun e s' => R (.error e) s') s)
    (n : Nat) (h : I n s) :
    codeAny (model prog w) A (.compLoop (.ListComp elt [⟨target, iter, ifs, 0⟩] scope pos) 0 it acc env) R s := by
  refine codeAny_loop rfl I (fun n s hI => ?_) n h
  show wpAny _ A ((compTurn (.ListComp elt [⟨target, iter, ifs, 0⟩] scope pos) 0 it acc env).onRaise (fun x => do noteFrame x env; theTreesLotGoes x)) _ _ s
  refine wpAny_noted ?_
  rw [compTurn_list]
  refine wpAny_bind (wpAny_standAt (wpAny_bind (wpAny_mono (turn n s hI) (fun r s₁ h₁ => ?_) fun _ _ h' => h')))
  cases r with
  | none => exact wpAny_pure h₁
  | some v =>
    refine wpAny_bind (wpAny_mono h₁ (fun _ s₁' h₁' => ?_) fun _ _ h' => h')
    refine wpAny_bind (wpAny_mono h₁' (fun _ s₂ h₂ => wpAny_bind (wpAny_mono h₂ (fun ok s₃ h₃ => ?_) fun _ _ h' => h')) fun _ _ h' => h')
    cases ok with
    | false => exact wpAny_pure ⟨rfl, h₃⟩
    | true =>
      exact wpAny_bind (wpAny_bind (wpAny_mono h₃ (fun x s₄ h₄ => wpAny_bind (wpAny_mono h₄ (fun _ s₅ h₅ => wpAny_pure (wpAny_pure ⟨rfl, h₅⟩)) fun _ _ h' => h')) fun _ _ h' => h'))

section
variable {X : Cx}
/-- [elt for target in iter if ..]: D the new list; W by the turn and a measure, Nx what a turn is to reach -/
def tLc (wi : TI) (g : TG) (tt : TT) (te : TE) (vs : List Nat) : TE := fun σ H Q => wi σ H fun J H1 => ∀ D, H1 D = none → ∃ W : Nat → Nat → Hp → Prop, (∃ m, W 0 m (upd H1 D (.lst []))) ∧ ∀ i m H, W i m H →
  (J.stop i H ∧ Q (.ref D) H) ∨ (J.go i H ∧ ∃ Nx : Hp → Prop, (∀ H', Nx H' → ∃ m', m' < m ∧ W (i + 1) m' H') ∧ ∀ x H', J.yld i H x H' → g x (wipe σ vs) H' fun σ2 H2 => wipe σ2 vs = wipe σ vs ∧ tt σ2 H2 fun b H3 =>
    if b = true then te σ2 H3 fun y H4 => ∃ acc, H4 D = some (.lst acc) ∧ acc.length < sizeLine ∧ Nx (upd H4 D (.lst (acc ++ [y]))) else Nx H3)
theorem lc_core {pins : List (Addr × Obj)} {s : Shared} {σ : St} {H : Hp} {Q : VK} {elt tg iter : Expr} {ifs : List Expr} {scope : Scope} {own : List (Str × Nat)} {pos pos' : Pos} {wi : TI} {g : TG} {tt : TT} {te : TE} {use : Option (Value → Sem Unit)} {Qf : Value → Shared → Prop}
    (hc : X.calm = true) (hN : X.N.Nodup) (I : Inv X pins σ H s) (hi : PI X tg iter wi) (ok : BlkOk X.N X.env.scope scope own)
    (hg : ∀ (s : Shared) (H : Hp) (C : Addr) (cl : List (Str × Addr)) (fp : List Addr), PG (X.blk s H scope (compEnvC scope cl C X.env) fp) tg g) (ht : ∀ (s : Shared) (H : Hp) (C : Addr) (cl : List (Str × Addr)) (fp : List Addr), PTs (X.blk s H scope (compEnvC scope cl C X.env) fp) ifs tt)
    (he : ∀ (s : Shared) (H : Hp) (C : Addr) (cl : List (Str × Addr)) (fp : List Addr), PE (X.blk s H scope (compEnvC scope cl C X.env) fp) elt te) (hs : ∀ x, foldedSetIterable iter X.env x = pure x)
    (h : tLc wi g tt te (own.map (·.2)) σ H Q)
    (hRR : ∀ D C s' m H', Inv X pins σ H' s' → Q (.ref D) H' → s'.heap.Ns C m → FpOk X pins H' C → compPost (model X.prog X.w) X.A X.xe use Qf (.ref D) C (.ok .next) s') :
    wpAny (model X.prog X.w) X.A (comprehension (.ListComp elt [⟨tg, iter, ifs, 0⟩] scope pos) scope X.env pos' (newList []) false (eval iter X.env) use) Qf X.xe s := by
  have hfree : ∀ y ∈ scope.names, y.2 = .free → ∃ c, X.env.cells.lookup y.1 = some c := fun y hy e => by
    rcases ok.free y hy e with k | k
    · exact I.ok.has _ (.inl k)
    · exact I.ok.has _ (.inr k)
  refine wpAny_comprehension_free (use := use) rfl hs (closure_ok hfree) ok.kind (fun y hy e => by rw [ok.uniq y hy, e])
    (thn (hi pins s σ H _ I h) fun xv s1 hx => thn hx fun itv s2 h2 => ?_)
  obtain ⟨it, fp, tn, J, H2, e, I2, T, st2, f2, q⟩ := h2
  subst e
  refine wpAny_newObj_type (newEnv_comp ?_) (by show 0 ≤ sizeLine; decide)
  generalize hD : s2.heap.objs.size = D
  have hDn : H2 D = none := I2.hok.fresh (Nat.le_of_eq hD)
  obtain ⟨W, ⟨m0, w0⟩, turn⟩ := q D hDn
  -- the new list
  generalize hs3 : ({ s2 with heap := s2.heap.push { cls := .type "list", data := .seq ([] : List Value).toArray } } : Shared) = s3
  have I3 : Inv X pins σ (upd H2 D (.lst [])) s3 := by
    rw [← hs3]
    refine I2.laid (t' := s2.toks) (fun b o e => Heap.get?_push_of_some _ e) (Nat.le_of_eq hD) ⟨Nat.zero_le _, [], 0, .nil, ?_⟩
    rw [← hD]
    exact Heap.get?_push_size _ rfl
  have h3 : s3.heap = s2.heap.push { cls := .type "list", data := .seq ([] : List Value).toArray } := by rw [← hs3]
  have sz : ∀ b ∈ fp, b < s2.heap.objs.size := fun b hb => by
    obtain ⟨o, e, _⟩ := T.obj _ _ st2 b hb
    exact Heap.lt_size e
  have f3 : ∀ b ∈ fp, FpOk X pins (upd H2 D (.lst [])) b ∧ b < s3.heap.objs.size := fun b hb => by
    have hlt := sz b hb
    refine ⟨⟨?_, (f2 b hb).2⟩, by rw [h3, Heap.size_push]; exact Nat.lt_succ_of_lt hlt⟩
    rw [upd_ne (by rw [← hD]; exact Nat.ne_of_lt hlt)]
    exact (f2 b hb).1
  have st3 : tn 0 s3.heap := T.keep _ _ _ st2 fun b _ o e => by rw [h3]; exact Heap.get?_push_of_some _ e
  have I4 := block_start I3 ok hN f3
  have pg := hg s3 (upd H2 D (.lst [])) s3.heap.objs.size (cellsFrom (s3.heap.objs.size + 1) scope.names (cloFrom X.env.cells scope.names [])) fp
  have pt := ht s3 (upd H2 D (.lst [])) s3.heap.objs.size (cellsFrom (s3.heap.objs.size + 1) scope.names (cloFrom X.env.cells scope.names [])) fp
  have pe := he s3 (upd H2 D (.lst [])) s3.heap.objs.size (cellsFrom (s3.heap.objs.size + 1) scope.names (cloFrom X.env.cells scope.names [])) fp
  show codeAny _ _ (.compStart (.ListComp elt [⟨tg, iter, ifs, 0⟩] scope pos) 0 (.ref it) (.ref D) (compEnvC scope (cellsFrom (s3.heap.objs.size + 1) scope.names (cloFrom X.env.cells scope.names [])) s3.heap.objs.size X.env)) (compPost (model X.prog X.w) X.A X.xe use Qf (.ref D) s3.heap.objs.size) { s3 with heap := pushCells (s3.heap.push { cls := .type "dict", data := .dict #[] }) scope.names }
  have nfp : ∀ b ∈ fp, (upd H2 D (.lst [])) b = none := fun b hb => (f3 b hb).1.1
  generalize hce : compEnvC scope (cellsFrom (s3.heap.objs.size + 1) scope.names (cloFrom X.env.cells scope.names [])) s3.heap.objs.size X.env = ce at I4 pg pt pe ⊢
  have cL : ce.locals = s3.heap.objs.size := by subst hce; rfl
  generalize hH3 : upd H2 D (.lst []) = H3 at I3 I4 pg pt pe w0 nfp f3
  generalize hs4 : ({ s3 with heap := pushCells (s3.heap.push { cls := .type "dict", data := .dict #[] }) scope.names } : Shared) = s4 at I4 ⊢
  have st4 : tn 0 s4.heap := T.keep _ _ _ st3 fun b _ o e => by rw [← hs4]; exact pushCells_keeps _ _ _ _ (Heap.get?_push_of_some _ e)
  have stat : ∀ {σ' : St} {H' : Hp} {s' : Shared}, Inv (X.blk s3 H3 scope ce fp) [] σ' H' s' → (∀ b ∈ fp, H' b = none) → ∀ b ∈ fp, FpOk (X.blk s3 H3 scope ce fp) [] H' b := fun {σ' H' s'} I' hn b hb =>
    ⟨hn b hb, (I'.ok.exf b hb).1, I'.ok.exfs b hb, .inl hb, fun x c e => (I'.ok.exf b hb).2 x c e, fun p hp => absurd (show p ∈ ([] : List (Addr × Obj)) ++ [] from hp) (by simp)⟩
  have loop : codeAny (model X.prog X.w) X.A (.compLoop (.ListComp elt [⟨tg, iter, ifs, 0⟩] scope pos) 0 (.ref it) (.ref D) ce) (compPost (model X.prog X.w) X.A X.xe use Qf (.ref D) s3.heap.objs.size) s4 := by
    refine compLoop_any (fun n s' => ∃ i H', Inv (X.blk s3 H3 scope ce fp) [] (wipe σ (own.map (·.2))) H' s' ∧ tn i s'.heap ∧ (∀ b ∈ fp, H' b = none) ∧ W i n H') ?_ m0 ⟨0, H3, I4, st4, nfp, w0⟩
    rintro n s5 ⟨i, H5, I5, st5, n5, w5⟩
    rcases turn i n H5 w5 with ⟨stop, qq⟩ | ⟨go, Nx, hNx, step⟩
    · have td := T.done (X.blk s3 H3 scope ce fp) rfl rfl rfl hc i [] s5 _ H5 (fun _ _ => False) I5 (stat I5 n5) st5 stop
      refine thnF td fun r s6 ⟨hr, I6⟩ => ?_
      subst hr
      -- back in the def's context
      have I7 : Inv X pins σ H5 s6 := I3.call' (ch := fp) I6.os I6.base I6.hok I6.bare fun b hb => ⟨(f3 b hb).1.2.2.2.1, (f3 b hb).1.2.1, (f3 b hb).1.2.2.2.2.1, (f3 b hb).1.2.2.2.2.2⟩
      have nC : H5 s3.heap.objs.size = none := by
        have z : H5 ce.locals = none := I6.free
        rw [cL] at z
        exact z
      obtain ⟨m, hn, _⟩ := I6.loc
      have hn : s6.heap.Ns ce.locals m := hn
      rw [cL] at hn
      exact hRR D s3.heap.objs.size s6 m H5 I7 qq hn (I3.fpOk (Nat.le_refl _) nC)
    · have ti := T.item (X.blk s3 H3 scope ce fp) rfl rfl rfl hc i [] s5 _ H5 (fun _ _ => False) I5 (stat I5 n5) st5 go
      refine thnF ti fun r s6 ⟨u, hr, h6⟩ => ?_
      subst hr
      refine thnF h6 fun _ s7 ⟨x, H7, I7, r7, y7, st7, n7⟩ => ?_
      have I7' := I7.pinned (stat I7 n7) (T.obj _ _ st7)
      refine thnF (pg _ s7 _ H7 x u _ I7' r7 (step x H7 y7)) fun _ s8 ⟨σ8, H8, I8, hw8, q8⟩ => ?_
      refine thnF (pt _ s8 σ8 H8 _ I8 q8) fun b s9 ⟨H9, I9, q9⟩ => ?_
      -- the turn's end
      have fin : ∀ {s' : Shared} {H' : Hp}, Inv (X.blk s3 H3 scope ce fp) ([] ++ pinsAt fp s7.heap) σ8 H' s' → Nx H' → ∃ m, m < n ∧ ∃ i H', Inv (X.blk s3 H3 scope ce fp) [] (wipe σ (own.map (·.2))) H' s' ∧ tn i s'.heap ∧ (∀ b ∈ fp, H' b = none) ∧ W i m H' := fun {s' H'} I' nx => by
        obtain ⟨m', hm, w'⟩ := hNx H' nx
        have pin' : ∀ b ∈ fp, ∀ o, s7.heap.get? b = some o → s'.heap.get? b = some o ∧ H' b = none := fun b hb o e =>
          let z := I'.pin (b, o) (List.mem_append_right _ (List.mem_append_right _ (mem_pinsAt hb e)))
          ⟨z.1, z.2.1⟩
        have hl : (wipe σ (own.map (·.2))).length = σ8.length := by rw [← hw8, wipe_length]
        refine ⟨m', hm, i + 1, H', (I'.unpinned (pins := [])).weak hl (fun j v e => ?_), T.keep _ _ _ st7 fun b hb o e => (pin' b hb o e).1, fun b hb => ?_, w'⟩
        · rw [← hw8] at e
          exact (wipe_some e).1
        · obtain ⟨o, e, _⟩ := T.obj _ _ st7 b hb
          exact (pin' b hb o e).2
      cases b with
      | false =>
        simp only [Bool.false_eq_true, if_false] at q9 ⊢
        exact fin I9 q9
      | true =>
        simp only [if_true] at q9 ⊢
        refine thnF (pe _ s9 σ8 H9 _ I9 q9) fun z s10 ⟨yv, H10, I10, r10, acc, hD10, hz10, nx⟩ => ?_
        exact app_ok (X := X.blk s3 H3 scope ce fp) I10 hD10 hz10 r10 fun s11 I11 => fin I11 nx
  exact codeAny_compStart_list loop (T.self X.A 0 _ _ _ st4 loop)
/-- as a value -/
theorem pe_lc {elt tg iter : Expr} {ifs : List Expr} {scope : Scope} {own : List (Str × Nat)} {pos : Pos} {wi : TI} {g : TG} {tt : TT} {te : TE} (hc : X.calm = true) (hN : X.N.Nodup) (hi : PI X tg iter wi) (ok : BlkOk X.N X.env.scope scope own)
    (hg : ∀ (s : Shared) (H : Hp) (C : Addr) (cl : List (Str × Addr)) (fp : List Addr), PG (X.blk s H scope (compEnvC scope cl C X.env) fp) tg g) (ht : ∀ (s : Shared) (H : Hp) (C : Addr) (cl : List (Str × Addr)) (fp : List Addr), PTs (X.blk s H scope (compEnvC scope cl C X.env) fp) ifs tt)
    (he : ∀ (s : Shared) (H : Hp) (C : Addr) (cl : List (Str × Addr)) (fp : List Addr), PE (X.blk s H scope (compEnvC scope cl C X.env) fp) elt te) (hs : ∀ x, foldedSetIterable iter X.env x = pure x := by intro _; rfl) :
    PE X (.ListComp elt [⟨tg, iter, ifs, 0⟩] scope pos) (tLc wi g tt te (own.map (·.2))) := by
  intro pins s σ H Q I h
  rw [eval_ListComp]
  refine lc_core hc hN I hi ok hg ht he hs h fun D C s' m H' I' q hn f => ⟨m, hn, fun h'' sb => ?_⟩
  obtain ⟨f0, f1, f2, f3, f4, f5⟩ := f
  exact ⟨.ref D, H', I'.turned (t' := s'.toks) (fun b o hb e => (sb.2 b hb).trans e) f0 f1 f3 f4 f5, rfl, q⟩
/-- name = [..] on one line, the name a local -/
theorem ps_setLc {i : Nat} {y : Str} {py : Pos} {elt tg iter : Expr} {ifs : List Expr} {scope : Scope} {own : List (Str × Nat)} {pos spos : Pos} {wi : TI} {g : TG} {tt : TT} {te : TE} (hc : X.calm = true) (hN : X.N.Nodup) (hy : X.N[i]? = some y) (hyl : X.env.scope.names.lookup y = some .local)
    (hsw : swapsWith (.ListComp elt [⟨tg, iter, ifs, 0⟩] scope pos) (some (.Name y py)) spos.line X.env = pure true) (hi : PI X tg iter wi) (ok : BlkOk X.N X.env.scope scope own)
    (hg : ∀ (s : Shared) (H : Hp) (C : Addr) (cl : List (Str × Addr)) (fp : List Addr), PG (X.blk s H scope (compEnvC scope cl C X.env) fp) tg g) (ht : ∀ (s : Shared) (H : Hp) (C : Addr) (cl : List (Str × Addr)) (fp : List Addr), PTs (X.blk s H scope (compEnvC scope cl C X.env) fp) ifs tt)
    (he : ∀ (s : Shared) (H : Hp) (C : Addr) (cl : List (Str × Addr)) (fp : List Addr), PE (X.blk s H scope (compEnvC scope cl C X.env) fp) elt te) (hs : ∀ x, foldedSetIterable iter X.env x = pure x := by intro _; rfl) :
    PS X (.Assign [.Name y py] (.ListComp elt [⟨tg, iter, ifs, 0⟩] scope pos) spos) (tAsg (tLc wi g tt te (own.map (·.2))) (gName i)) := by
  intro pins s σ H D I h
  rw [exec_Assign_Name_used _ _ _ _ hsw]
  refine wpAny_bind (wpAny_standAt (wpAny_bind ?_))
  show wpAny _ X.A (do let _ ← comprehension (.ListComp elt [⟨tg, iter, ifs, 0⟩] scope pos) scope X.env (firstIterPos [⟨tg, iter, ifs, 0⟩] pos) (newList []) false (eval iter X.env) (some (assign (.Name y py) X.env))) _ _ s
  have h : tLc wi g tt te (own.map (·.2)) σ H (fun x H1 => gName i x σ H1 D.nx) := h
  refine wpAny_bind (thn (lc_core (Qf := fun _ s' => SP X pins D .next s') hc hN I hi ok hg ht he hs h fun L C s' m H' I' q hn f => ?_) fun _ s' hq => wpAny_pure (wpAny_pure hq))
  show wpAny _ _ (assign (.Name y py) X.env (.ref L)) _ _ _
  refine wpAny_assign_Name (store_ok2 (v := V.ref L) I' hN hy (.inl hyl) rfl (fun s2 I2 ⟨a, sb, ha⟩ => ?_) (.inr hyl))
  obtain ⟨f0, f1, f2, f3, f4, f5⟩ := f
  have haC : C ≠ a := by
    rcases ha with z | z
    · rw [z]; exact f1
    · exact fun e => f4 y a z e.symm
  refine ⟨m, hn.sameBut sb haC, fun h3 sb3 => ?_⟩
  exact ⟨_, H', I2.turned (t' := s2.toks) (fun b o hb e => (sb3.2 b hb).trans e) f0 f1 f3 f4 f5, q⟩
theorem sw_true {elt : Expr} {gs : List Comprehension} {scope : Scope} {pos py : Pos} {y : Str} {l : Nat} {env : Env} (hk : env.scope.kind = .function) (hy : env.scope.names.lookup y = some .local) (hl : (py.line == pos.line) = true)
    (ha : (scope.names.any fun (n, k) => n == y && (k == .local || k == .cell)) = false) : swapsWith (.ListComp elt gs scope pos) (some (.Name y py)) l env = pure true := by
  have ky : env.kindOf y = some .local := hy
  have hb : env.blockKind = .function := by unfold Env.blockKind; rw [hk]; rfl
  unfold swapsWith
  simp only [hb, ky, ha, Expr.pos, hl]
  rfl
end

/-! ### the forms one uses -/
def blkC (N : List Str) (sc scope : Scope) (own : List (Str × Nat)) : Bool :=
  (match scope.kind with | .function => true | _ => false) && (scope.names.all fun y => decide (scope.names.lookup y.1 = some y.2)) && (own.all fun p => decide (N[p.2]? = some p.1)) &&
    (scope.names.all fun y => match y.2 with
      | .free => (match sc.names.lookup y.1 with | some .cell => true | some .free => true | _ => false)
      | .local => decide (y.1 ∈ own.map (·.1)) || decide (y.1 ∉ N)
      | .cell => decide (y.1 ∈ own.map (·.1)) || decide (y.1 ∉ N)
      | _ => true)
theorem blkOk_by {N : List Str} {sc scope : Scope} {own : List (Str × Nat)} (h : blkC N sc scope own = true) : BlkOk N sc scope own := by
  unfold blkC at h
  simp only [Bool.and_eq_true, List.all_eq_true, decide_eq_true_eq] at h
  obtain ⟨⟨⟨h1, h2⟩, h3⟩, h4⟩ := h
  refine ⟨?_, h2, h3, fun y hy e => ?_, fun y hy e => ?_⟩
  · split at h1
    · assumption
    · cases h1
  · have q := h4 y hy
    simp only [e] at q
    split at q <;> first | exact .inl (by assumption) | exact .inr (by assumption) | cases q
  · have q := h4 y hy
    rcases e with e | e <;> (simp only [e, Bool.or_eq_true, decide_eq_true_eq] at q; exact q)
end L2

namespace L2
open PySem PySem.Spec PyProof.Rows

section
variable {prog : Program} {w : World} {A : Around} {R : Result → Shared → Prop} {s : Shared} {elt t0 i0 t1 i1 : Expr} {ifs0 ifs1 : List Expr} {scope : Scope} {pos : Pos} {it acc : Value} {env : Env}
end

section
variable {X : Cx}
end
end L2

namespace L2
open PySem PySem.Spec PyProof.Rows

/-! ### lists of pairs as tables -/
section
variable {κ : Type} [DecidableEq κ]
def valV (kvs : List (κ × V)) (k : κ) : Option V := (kvs.find? fun kv => decide (kv.1 = k)).map (·.2)
/-- in its place, or at the end -/
def putK (kvs : List (κ × V)) (k : κ) (v : V) : List (κ × V) :=
  if (kvs.any fun kv => decide (kv.1 = k)) = true then kvs.map (fun kv => if kv.1 = k then (kv.1, v) else kv) else kvs ++ [(k, v)]
def dropK (kvs : List (κ × V)) (k : κ) : List (κ × V) := kvs.filter fun kv => decide (kv.1 ≠ k)

theorem valV_pos {p : κ × V} {r : List (κ × V)} {k : κ} (e : p.1 = k) : valV (p :: r) k = some p.2 := by simp [valV, List.find?_cons, e]
theorem valV_neg {p : κ × V} {r : List (κ × V)} {k : κ} (e : ¬ p.1 = k) : valV (p :: r) k = valV r k := by simp [valV, List.find?_cons, e]
theorem valV_any (k : κ) : ∀ kvs : List (κ × V), (kvs.any fun kv => decide (kv.1 = k)) = (valV kvs k).isSome
  | [] => rfl
  | p :: r => by
    rw [List.any_cons]
    by_cases e : p.1 = k
    · simp only [valV_pos e, decide_eq_true e, Bool.true_or, Option.isSome_some]
    · rw [valV_neg e, decide_eq_false e, Bool.false_or]; exact valV_any k r
theorem RelO.isSome_eq {o : Option V} {u : Option Value} (r : RelO o u) : o.isSome = u.isSome := by
  cases o with
  | none => cases u with
    | none => rfl
    | some _ => exact (show False from r).elim
  | some _ => cases u with
    | none => exact (show False from r).elim
    | some _ => rfl
theorem RelO.getD {o : Option V} {u : Option Value} {d : V} {d' : Value} (r : RelO o u) (rd : RelV d d') : RelV (o.getD d) (u.getD d') := by
  cases o with
  | none => cases u with
    | none => exact rd
    | some _ => exact (show False from r).elim
  | some _ => cases u with
    | none => exact (show False from r).elim
    | some _ => exact r

/-- raw tables of the same keys -/
theorem KV.val {kvs : List (κ × V)} {vs : List (κ × Value)} (r : KV kvs vs) (k : κ) : RelO (valV kvs k) (valueAt vs k) := by
  unfold KV at r
  induction r with
  | nil => exact True.intro
  | @cons p q ps qs h t ih =>
    obtain ⟨h1, h2⟩ := h
    by_cases e : p.1 = k
    · have e' : q.1 = k := h1.symm.trans e
      have b : valueAt (q :: qs) k = some q.2 := by simp [valueAt, List.find?_cons, e']
      rw [valV_pos e, b]; exact h2
    · have e' : ¬ q.1 = k := fun z => e (h1.trans z)
      have b : valueAt (q :: qs) k = valueAt qs k := by simp [valueAt, List.find?_cons, e']
      rw [valV_neg e, b]; exact ih
theorem KV.any {kvs : List (κ × V)} {vs : List (κ × Value)} (r : KV kvs vs) (k : κ) : (kvs.any fun kv => decide (kv.1 = k)) = vs.any fun kv => decide (kv.1 = k) := by
  unfold KV at r
  induction r with
  | nil => rfl
  | cons h t ih => rw [List.any_cons, List.any_cons, ih, h.1]
theorem KV.repl {kvs : List (κ × V)} {vs : List (κ × Value)} (r : KV kvs vs) (k : κ) {y : V} {u : Value} (ry : RelV y u) :
    KV (kvs.map fun kv => if kv.1 = k then (kv.1, y) else kv) (vs.map fun kv => if kv.1 = k then (kv.1, u) else kv) := by
  unfold KV at r ⊢
  induction r with
  | nil => exact .nil
  | @cons p q ps qs h t ih =>
    rw [List.map_cons, List.map_cons]
    refine .cons ?_ ih
    obtain ⟨h1, h2⟩ := h
    by_cases e : p.1 = k
    · rw [if_pos e, if_pos (h1.symm.trans e)]; exact ⟨h1, ry⟩
    · rw [if_neg e, if_neg (fun z => e (h1.trans z))]; exact ⟨h1, h2⟩
theorem KV.put {kvs : List (κ × V)} {vs : List (κ × Value)} (r : KV kvs vs) (k : κ) {y : V} {u : Value} (ry : RelV y u) : KV (putK kvs k y) (stored vs k u) := by
  unfold putK stored
  rw [r.any k]
  by_cases e : (vs.any fun kv => decide (kv.1 = k)) = true
  · rw [if_pos e, if_pos e]; exact r.repl k ry
  · rw [if_neg e, if_neg e]; exact Paired.snoc r ⟨rfl, ry⟩
theorem KV.drop {kvs : List (κ × V)} {vs : List (κ × Value)} (r : KV kvs vs) (k : κ) : KV (dropK kvs k) (without vs k) := by
  unfold KV at r ⊢
  unfold dropK without
  induction r with
  | nil => exact .nil
  | @cons p q ps qs h t ih =>
    obtain ⟨h1, h2⟩ := h
    rw [List.filter_cons, List.filter_cons]
    by_cases e : p.1 = k
    · have a : ¬ decide (p.1 ≠ k) = true := by simp [e]
      have b : ¬ decide (q.1 ≠ k) = true := by simp [h1.symm.trans e]
      rw [if_neg a, if_neg b]; exact ih
    · have e' : ¬ q.1 = k := fun z => e (h1.trans z)
      have a : decide (p.1 ≠ k) = true := by simp [e]
      have b : decide (q.1 ≠ k) = true := by simp [e']
      rw [if_pos a, if_pos b]; exact .cons ⟨h1, h2⟩ ih
theorem KV.keys {kvs : List (κ × V)} {vs : List (κ × Value)} (r : KV kvs vs) : kvs.map (·.1) = vs.map (·.1) := by
  unfold KV at r
  induction r with
  | nil => rfl
  | cons h t ih => rw [List.map_cons, List.map_cons, ih, h.1]
theorem KV.length {kvs : List (κ × V)} {vs : List (κ × Value)} (r : KV kvs vs) : kvs.length = vs.length := Paired.length r
end


/-! ### a tracked dict, its keys ints and texts or tuples of these -/
/-- raw entries of a dict with tuple keys -/
abbrev KT (H : Hp) : List (List Key × V) → List (List Key × Addr × Value) → Prop := Paired fun p q => p.1 = q.1 ∧ H q.2.1 = some (.tup (p.1.map kV)) ∧ RelV p.2 q.2.2
theorem KT.val {H : Hp} {kvs : List (List Key × V)} {xs : List (List Key × Addr × Value)} (r : KT H kvs xs) (k : List Key) : RelO (valV kvs k) ((atKey xs k).map (·.2)) := by
  induction r with
  | nil => exact True.intro
  | @cons p q ps qs h t ih =>
    obtain ⟨h1, _, h2⟩ := h
    by_cases e : p.1 = k
    · have e' : q.1 = k := h1.symm.trans e
      have b : atKey (q :: qs) k = some q.2 := by simp [atKey, List.find?_cons, e']
      rw [valV_pos e, b]; exact h2
    · have e' : ¬ q.1 = k := fun z => e (h1.trans z)
      have b : atKey (q :: qs) k = atKey qs k := by simp [atKey, List.find?_cons, e']
      rw [valV_neg e, b]; exact ih
theorem KT.repl {H : Hp} {kvs : List (List Key × V)} {xs : List (List Key × Addr × Value)} (r : KT H kvs xs) (k : List Key) {y : V} {u : Value} (ry : RelV y u) :
    KT H (kvs.map fun kv => if kv.1 = k then (kv.1, y) else kv) (xs.map (putAt k u)) := by
  induction r with
  | nil => exact .nil
  | @cons p q ps qs h t ih =>
    rw [List.map_cons, List.map_cons]
    refine .cons ?_ ih
    obtain ⟨h1, h2, h3⟩ := h
    unfold putAt
    by_cases e : p.1 = k
    · rw [if_pos e, if_pos (h1.symm.trans e)]; exact ⟨h1, h2, ry⟩
    · rw [if_neg e, if_neg (fun z => e (h1.trans z))]; exact ⟨h1, h2, h3⟩
theorem KT.put {H : Hp} {kvs : List (List Key × V)} {xs : List (List Key × Addr × Value)} (r : KT H kvs xs) (k : List Key) {b : Addr} {y : V} {u : Value} (hb : H b = some (.tup (k.map kV))) (ry : RelV y u) :
    KT H (putK kvs k y) (storedH xs k b u) := by
  have e : (kvs.any fun kv => decide (kv.1 = k)) = (atKey xs k).isSome := by
    rw [valV_any, (r.val k).isSome_eq, Option.isSome_map]
  unfold putK storedH
  rw [e]
  by_cases q : (atKey xs k).isSome = true
  · rw [if_pos q, if_pos q]; exact r.repl k ry
  · rw [if_neg q, if_neg q]; exact Paired.snoc r ⟨rfl, hb, ry⟩
theorem KT.keeps {H H' : Hp} {kvs : List (List Key × V)} {xs : List (List Key × Addr × Value)} (r : KT H kvs xs) (ht : ∀ b ys, H b = some (.tup ys) → H' b = some (.tup ys)) : KT H' kvs xs :=
  Paired.mapP r fun _ _ z => ⟨z.1, ht _ _ z.2.1, z.2.2⟩

section
variable {P : Program} {w : World} {H : Hp} {h : Heap} {a : Addr}
theorem rd_of {u : HO} (ok : HOk P w H h) (e : Rd H a u) : ObjOk P w H h a u := e.ok ok
theorem dk_rd {kvs : List (Key × V)} (ok : HOk P w H h) (e : Rd H a (.dK kvs)) : kvs.length ≤ sizeLine ∧ (a == sysModules) = false ∧ ∃ vs, KV kvs vs ∧ h.DictOf (mixKind P w) a vs :=
  show ObjOk P w H h a (.dK kvs) from rd_of ok e
end

/-- what the dict at a holds at the key y -/
def DGet (H : Hp) (a : Addr) (y : V) (r : Option V) : Prop :=
  (∃ kvs k, Rd H a (.dK kvs) ∧ y = kV k ∧ r = valV kvs k) ∨ ∃ kvs k b, Rd H a (.dT kvs) ∧ y = .ref b ∧ H b = some (.tup (k.map kV)) ∧ r = valV kvs k
/-- the heap behind a[y] = v -/
def DPut (H : Hp) (a : Addr) (y v : V) (H' : Hp) : Prop :=
  (∃ kvs k, H a = some (.dK kvs) ∧ y = kV k ∧ kvs.length < sizeLine ∧ H' = upd H a (.dK (putK kvs k v))) ∨
  ∃ kvs k b, H a = some (.dT kvs) ∧ y = .ref b ∧ H b = some (.tup (k.map kV)) ∧ kvs.length < sizeLine ∧ H' = upd H a (.dT (putK kvs k v))
theorem DGet.k {H : Hp} {a : Addr} {kvs : List (Key × V)} {k : Key} (e : H a = some (.dK kvs)) : DGet H a (kV k) (valV kvs k) := .inl ⟨kvs, k, .inl e, rfl, rfl⟩
theorem DGet.t {H : Hp} {a b : Addr} {kvs : List (List Key × V)} {k : List Key} (e : H a = some (.dT kvs)) (eb : H b = some (.tup (k.map kV))) : DGet H a (.ref b) (valV kvs k) := .inr ⟨kvs, k, b, .inl e, rfl, eb, rfl⟩
theorem DPut.k {H : Hp} {a : Addr} {kvs : List (Key × V)} {k : Key} {v : V} (e : H a = some (.dK kvs)) (hl : kvs.length < sizeLine) : DPut H a (kV k) v (upd H a (.dK (putK kvs k v))) := .inl ⟨kvs, k, e, rfl, hl, rfl⟩
theorem DPut.t {H : Hp} {a b : Addr} {kvs : List (List Key × V)} {k : List Key} {v : V} (e : H a = some (.dT kvs)) (eb : H b = some (.tup (k.map kV))) (hl : kvs.length < sizeLine) :
    DPut H a (.ref b) v (upd H a (.dT (putK kvs k v))) := .inr ⟨kvs, k, b, e, rfl, eb, hl, rfl⟩


section
variable {X : Cx} {pins : List (Addr × Obj)} {σ : St} {H : Hp} {s : Shared} {a : Addr} {y v : V} {u r : Value} {o : Option V} {A : Around} {E : Value → Shared → Prop}

end

section
variable {X : Cx} {pins : List (Addr × Obj)} {σ : St} {H : Hp} {s : Shared} {a : Addr} {kvs : List (Key × V)} {k : Key} {u : Value} {A : Around} {E : Value → Shared → Prop}
/-- len(d) -/
theorem d_len {Q : Value → Shared → Prop} (I : Inv X pins σ H s) (e : Rd H a (.dK kvs)) (h : ∀ t s', Inv X pins σ H s' → Q (.int kvs.length t) s') : wpAny (model X.prog X.w) A (call (.builtin "len") [.ref a]) Q E s := by
  obtain ⟨z, hd, vs, rel, dd⟩ := dk_rd I.hok e
  refine call_len_dict hd dd (by rw [← rel.length]; rw [sizeLine_eq] at z; omega) ?_
  rw [← rel.length]
  exact h _ _ (I.tok _)
end


/-! ### readings and rules -/
section
variable {X : Cx} {o i e value : Expr} {pos pos' tpos : Pos} {td ty tv : TE}
end


/-! ### displays -/
section
variable {X : Cx} {pos : Pos}
end

/-- the pairs of a display, from the left -/
def tPairs : List (TE × TE) → St → Hp → (List (V × V) → Hp → Prop) → Prop
  | [], _, H, Q => Q [] H
  | (tk, tv) :: r, σ, H, Q => tk σ H fun x H1 => tv σ H1 fun y H2 => tPairs r σ H2 fun ps H3 => Q ((x, y) :: ps) H3
abbrev VV : List (V × V) → List (Value × Value) → Prop := Paired fun p q => RelV p.1 q.1 ∧ RelV p.2 q.2
def PPs (X : Cx) (pos : Pos) (keys : List (Option Expr)) (values : List Expr) (trs : List (TE × TE)) : Prop :=
  ∀ (pins : List (Addr × Obj)) (s : Shared) (σ : St) (H : Hp) (Q : List (V × V) → Hp → Prop), Inv X pins σ H s → tPairs trs σ H Q →
    wpAny (model X.prog X.w) X.A (evalPairs (pairTrees keys values X.env pos)) (fun vs s' => ∃ ps H', Inv X pins σ H' s' ∧ VV ps vs ∧ Q ps H') X.xe s
/-! ### methods -/
/-- a method call o.m(e) of a built-in, with one argument: what must be seen of the text -/
structure M1 (X : Cx) (o : Expr) (m : Str) (apos : Pos) (e : Expr) (cpos : Pos) : Prop where
  base : attributeBase o m X.env (eval o X.env) = eval o X.env
  few : ((backTo cpos (starEach [e] X.env)).all (fun x => !x.1) && (backToKw cpos (keywordEach [] X.env)).all (fun x => x.1.isSome)
    && decide (([e] : List Expr).length + ([] : List Keyword).length + (if ([] : List Keyword).isEmpty then 0 else 1) < 30)) = true
  line : (apos.endLine == cpos.line) = true
  trees : backTo cpos (starEach [e] X.env) = [(false, eval e X.env)]
structure M2 (X : Cx) (o : Expr) (m : Str) (apos : Pos) (e f : Expr) (cpos : Pos) : Prop where
  base : attributeBase o m X.env (eval o X.env) = eval o X.env
  few : ((backTo cpos (starEach [e, f] X.env)).all (fun x => !x.1) && (backToKw cpos (keywordEach [] X.env)).all (fun x => x.1.isSome)
    && decide (([e, f] : List Expr).length + ([] : List Keyword).length + (if ([] : List Keyword).isEmpty then 0 else 1) < 30)) = true
  line : (apos.endLine == cpos.line) = true
  trees : backTo cpos (starEach [e, f] X.env) = [(false, eval e X.env), (false, eval f X.env)]

section
variable {X : Cx} {pins : List (Addr × Obj)} {σ : St} {H : Hp} {s : Shared} {a : Addr} {y d : V} {u r : Value} {o : Option V} {A : Around} {E : Value → Shared → Prop}
end

section
variable {X : Cx} {o e f : Expr} {apos cpos : Pos} {td ty tx : TE}
end

/-! ### dict(d): a copy -/
section
variable {X : Cx} {pins : List (Addr × Obj)} {σ : St} {H : Hp} {s : Shared} {a : Addr} {kvs : List (Key × V)} {A : Around} {E : Value → Shared → Prop}
end


section
variable {X : Cx} {pins : List (Addr × Obj)} {σ : St} {H : Hp} {s : Shared} {a : Addr} {y : V} {u : Value} {A : Around} {E : Value → Shared → Prop}
end
end L2

namespace L2
open PySem PySem.Spec PyProof.Rows

section
variable {prog : Program} {w : World} {A : Around} {E : Value → Shared → Prop}
end

section
variable {X : Cx}
end
end L2

namespace L2
open PySem PySem.Spec PyProof.Rows

section
variable {X : Cx} {pins : List (Addr × Obj)} {σ : St} {H : Hp} {s : Shared} {h' : Heap}
/-! ### locking a thing while a statement runs -/
end
section
variable {X : Cx}
/-! ### one iterator just laid -/
end

/-! ### range with a step -/
/-- range(i, j, c): small bounds, n items -/
def RgC (i j c : Int) (n : Nat) : Prop := c ≠ 0 ∧ c.natAbs < 1073741824 ∧ Builtin.Range.small i j c = true ∧ Builtin.Range.rangeSize i j c = n
theorem RgC.neg {i j : Int} (ha : -(2 ^ 62) ≤ i) (ha' : i < 2 ^ 62) (hb : -(2 ^ 62) ≤ j) (hb' : j < 2 ^ 62) : RgC i j (-1) (i - j).toNat :=
  ⟨by decide, by decide, PySem.W.small_down ha ha' hb hb', PySem.W.rangeSize_downNat i j⟩
section
variable {X : Cx} {tg : Expr}
end
/-! ### reversed(list) -/
section
variable {X : Cx} {tg : Expr}
end

/-! ### a str -/
/-! ### a dict's keys: any dict's entries -/
section
variable {prog : Program} {w : World} {A : Around} {E : Value → Shared → Prop} {s : Shared}
end

/-! ### a locked dict -/
section
variable {X : Cx} {pins : List (Addr × Obj)} {σ : St} {H : Hp} {s : Shared} {d : Addr} {o : Obj}
end

section
variable {P : Program} {w : World} {K : PySem.W.Frag} {tg : Expr} {d : Addr} {o : Obj} {es : Array DictEntry} {ep : Nat}
end

/-! ### for k in d, d.keys(), d.values(), d.items() -/
section
variable {X : Cx} {tg e : Expr} {td : TE} {apos cpos : Pos}
end

/-! ### enumerate(list) -/
/-! ### zip(list, list) -/
end L2

section 
namespace Bits
open PySem PyProof.Rows

end Bits
end 

section 
namespace TL
open PySem PySem.Builtin PySem.Builtin.Str PySem.StrLaws

abbrev tl (x : Str) : List Nat := x.cps.toList
/-! ### the list functions -/
/-- S stands at the head of l -/
def pre (S l : List Nat) : Bool := l.take S.length == S
/-- l cut at each S from the left; k signs are still to be passed over -/
def spl (S : List Nat) : Nat → List Nat → List Nat → List (List Nat)
  | _, acc, [] => [acc]
  | 0, acc, c :: r => if pre S (c :: r) = true then acc :: spl S (S.length - 1) [] r else spl S 0 (acc ++ [c]) r
  | k + 1, acc, _ :: r => spl S k acc r
/-- what stands before the first S, and behind it -/
def par (S : List Nat) : List Nat → List Nat → Option (List Nat × List Nat)
  | _, [] => none
  | acc, c :: r => if pre S (c :: r) = true then some (acc, (c :: r).drop S.length) else par S (acc ++ [c]) r

/-! ### the model's split and partition are these -/
/-! ### computing spl and par -/
/-! ### digits -/
/-! ### words: x.split() -/
end TL
end 

namespace L2
open PySem PySem.Spec PyProof.Rows

section
variable {X : Cx} {pins : List (Addr × Obj)} {σ : St} {H : Hp} {s : Shared} {Q : VK}
end

section
variable {X : Cx}

/-! ### of a text alone -/
/-! ### of a text and a text -/
/-- int(text) -/
theorem call_int_str : CallR X (.type "int") (fun xs H Q => ∃ a n, xs = [.str a] ∧ PySem.intText? a = some n ∧ a.length ≤ 640 ∧ Q (.int n) H) := by
  intro pins s σ H xs us Q I rs h
  obtain ⟨a, n, rfl, hn, hl, h⟩ := h
  cases rs with
  | cons r1 rs =>
    cases rs
    obtain ⟨t, rfl⟩ := r1
    exact PySem.W.KIN.call_text hn hl ⟨.int n, H, I.tok _, ⟨_, rfl⟩, h⟩
end

section
variable {X : Cx} {o e : Expr} {to te : TE}
end
end L2

namespace L2
open PySem PySem.Spec PyProof.Rows

section
variable {X : Cx}
end

/-! ### slices of a text -/
theorem IsPart.raw {v : Value} {o : Option Int} (p : IsPart v o) : ∃ l : Option (Int × Tok), v = partValue l ∧ l.map (·.1) = o := by
  cases p with
  | none => exact ⟨none, rfl, rfl⟩
  | int i t => exact ⟨some (i, t), rfl, rfl⟩

/-- a part, clipped, as the text's slice reckons it -/
def clipS (n d : Nat) : Option Int → Int
  | none => (d : Int)
  | some i => max 0 (min (if i < 0 then i + (n : Int) else i) (n : Int))
theorem clipS_eq (n d : Nat) (o : Option Int) : clipS n d o = ((HT.sIx n d o : Nat) : Int) := by
  cases o with
  | none => rfl
  | some v =>
    show max (0 : Int) (min (if v < 0 then v + (n : Int) else v) (n : Int)) = (((if v < 0 then (v + (n : Int)).toNat else min v.toNat n) : Nat) : Int)
    by_cases hv : v < 0
    · simp only [if_pos hv]
      omega
    · simp only [if_neg hv]
      omega
theorem sidx_clip (a b : Option Int) (n : Nat) : Builtin.Str.strSliceIndices a b 1 n = sliceRange (clipS n 0 a) (clipS n n b) 1 := by
  have h1 : ((1 : Int) > 0) = True := by simp
  cases a <;> cases b <;> first
    | rfl
    | (simp only [Builtin.Str.strSliceIndices, clipS, h1, if_true]; rfl)
    | simp [Builtin.Str.strSliceIndices, clipS]
theorem sidx (a b : Option Int) (n : Nat) : Builtin.Str.strSliceIndices a b 1 n = (List.range (HT.sIx n n b - HT.sIx n 0 a)).map (fun k => HT.sIx n 0 a + k) := by
  rw [sidx_clip, clipS_eq, clipS_eq]
  generalize HT.sIx n 0 a = p
  generalize HT.sIx n n b = q
  simp only [sliceRange, show ((1 : Int) > 0) = True from by simp, if_true]
  by_cases hlt : (p : Int) < q
  · have e3 : (((q : Int) - p + 1 - 1) / 1).toNat = q - p := by first | omega | (simp; done) | (simp; omega)
    simp only [hlt, if_true, e3]
    refine List.map_congr_left fun k _ => ?_
    omega
  · have : q - p = 0 := by omega
    simp [hlt, this]

/-- z[lo:hi] -/
def cutS (z : Str) (lo hi : Option Int) : Str :=
  ⟨((z.cps.toList.drop (HT.sIx z.length 0 lo)).take (HT.sIx z.length z.length hi - HT.sIx z.length 0 lo)).toArray⟩
theorem sliceText_cut (z : Str) (lo hi : Option Int) : PySem.StrLaws.sliceText z lo hi = cutS z lo hi := by
  have h1 : HT.sIx z.length 0 lo ≤ z.length := HT.sIx_le _ _ (Nat.zero_le _) _
  have h2 : HT.sIx z.length z.length hi ≤ z.length := HT.sIx_le _ _ (Nat.le_refl _) _
  have hp : HT.sIx z.length 0 lo ≤ max (HT.sIx z.length 0 lo) (HT.sIx z.length z.length hi) := Nat.le_max_left _ _
  have hq : max (HT.sIx z.length 0 lo) (HT.sIx z.length z.length hi) ≤ z.length := Nat.max_le.mpr ⟨h1, h2⟩
  have hd : max (HT.sIx z.length 0 lo) (HT.sIx z.length z.length hi) - HT.sIx z.length 0 lo = HT.sIx z.length z.length hi - HT.sIx z.length 0 lo := by omega
  have e : Builtin.Str.strSliceIndices lo hi 1 z.length =
      Builtin.Str.strSliceIndices (some ((HT.sIx z.length 0 lo : Nat) : Int)) (some ((max (HT.sIx z.length 0 lo) (HT.sIx z.length z.length hi) : Nat) : Int)) 1 z.length := by
    rw [PySem.StrLaws.strSliceIndices_plain hp hq, hd, sidx]
  have e2 : PySem.StrLaws.sliceText z lo hi =
      PySem.StrLaws.sliceText z (some ((HT.sIx z.length 0 lo : Nat) : Int)) (some ((max (HT.sIx z.length 0 lo) (HT.sIx z.length z.length hi) : Nat) : Int)) := by
    unfold PySem.StrLaws.sliceText
    rw [e]
  rw [e2, PySem.StrLaws.sliceText_nat z hp hq, hd]
  rfl
theorem cutS_length (z : Str) (lo hi : Option Int) : (cutS z lo hi).length ≤ z.length := by
  show (((z.cps.toList.drop (HT.sIx z.length 0 lo)).take (HT.sIx z.length z.length hi - HT.sIx z.length 0 lo)).toArray).size ≤ z.cps.size
  rw [List.size_toArray, List.length_take, List.length_drop, Array.length_toList]
  omega
def rSlS : V → Option Int → Option Int → Hp → VK → Prop := fun x lo hi H Q => ∃ z, x = .str z ∧ z.length ≤ sizeLine ∧ Q (.str (cutS z lo hi)) H
theorem sl_str {X : Cx} : SlR X rSlS := by
  intro pins s σ H x v vl vu lo hi sl Q I rx hs pl pu h
  obtain ⟨z, rfl, hz, q⟩ := h
  obtain ⟨t, rfl⟩ := rx
  obtain ⟨os, hos, hcs, hds⟩ := hs
  obtain ⟨l, rfl, rfl⟩ := IsPart.raw pl
  obtain ⟨u, rfl, rfl⟩ := IsPart.raw pu
  refine ⟨"str", _, F.slot_str_getitem.lookup, typeIs_str _ _ _, ?_⟩
  refine wpAny_getItem_str_slice (l := l) (u := u) (st := none) ⟨os, hos, hcs, hds⟩ rfl ?_
  have hl : (PySem.StrLaws.sliceText z (l.map (·.1)) (u.map (·.1))).length ≤ sizeLine := by
    rw [sliceText_cut]
    exact Nat.le_trans (cutS_length z _ _) hz
  rw [← sliceText_cut] at q
  unfold PySem.StrLaws.sliceText at q hl
  show Made.post (if ((1 : Int) == 1 && (Builtin.Str.strSliceIndices (l.map (·.1)) (u.map (·.1)) 1 z.length).length == z.length) = true then Made.val (.str z t)
    else Made.str ⟨((Builtin.Str.strSliceIndices (l.map (·.1)) (u.map (·.1)) 1 z.length).filterMap (z.cps[·]?)).toArray⟩) (EP X pins σ Q) s
  by_cases c : ((1 : Int) == 1 && (Builtin.Str.strSliceIndices (l.map (·.1)) (u.map (·.1)) 1 z.length).length == z.length) = true
  · rw [if_pos c] at q ⊢
    exact ⟨.str z, H, I, ⟨t, rfl⟩, q⟩
  · rw [if_neg c] at q hl ⊢
    exact ⟨hl, .str _, H, I.tok _, ⟨_, rfl⟩, q⟩
end L2

namespace Att
open PySem PySem.W PySem.Calls PyProof.Rows

/-! ### the script -/
theorem ints_of_wellAll {P : Params} {h : Heap} : ∀ (ns : List Int) (vs : List Value), WellAll P h vs (ns.map WData.int) → IntsAre vs ns := by
  intro ns
  induction ns with
  | nil =>
    intro vs w
    rw [List.map_nil] at w
    cases w
    exact .nil
  | cons n ns ih =>
    intro vs w
    rw [List.map_cons] at w
    cases w with
    | cons a b =>
      cases a
      exact .cons _ _ (ih _ b)

theorem script_of {l : OpenLaw} {n : Nat} (hn : l.most = some n) {P : Params} {h : Heap} {args : List WData} {vals : List Value}
    (hpre : l.row.toRowW.claim.pre args = true) (hwl : WellAll P h vals args) :
    ∃ a vs ns, vals = [Value.ref a] ∧ args = [WData.list (ns.map WData.int)] ∧ h.get? a = some { cls := .type "list", data := .seq vs.toArray } ∧ IntsAre vs ns ∧ ns.length ≤ n := by
  have hsh : WShape.hasAll [] args [.list .int] = true := (pre_splitW hpre).1
  have hc : l.pre.holds [] { args := args } = true := (pre_splitW hpre).2
  obtain ⟨d, r, rfl, h1, h2⟩ := hasAllW_cons hsh
  obtain rfl := hasAllW_nil h2
  obtain ⟨xs, rfl, h3⟩ := hasW_list h1
  obtain ⟨ns, rfl⟩ := items_int h3
  have hlen : ns.length ≤ n := by
    unfold OpenLaw.pre at hc
    have h4 : (WTm.not (.lt (.lit (.int (n : Int))) (.len (.arg 0)))).holds [] { args := [.list (ns.map .int)] } = true := by
      have h4 := (holds_andW hc).1
      rw [hn] at h4
      exact h4
    have h5 := condW_of h4 (w_not (w_lt w_lit (w_len_list (w_arg rfl))))
    rw [List.length_map] at h5
    refine Nat.le_of_not_lt fun q => ?_
    have q' : (n : Int) < ((ns.length : Nat) : Int) := by omega
    first
      | (rw [decide_eq_true q'] at h5; exact absurd h5 (by decide))
      | (simp at h5; omega)
  cases hwl with
  | cons w1 w2 =>
    cases w2
    cases w1 with
    | list ho hall => exact ⟨_, _, ns, rfl, rfl, ho, ints_of_wellAll ns _ hall, hlen⟩

theorem post_true (l : OpenLaw) (args : List WData) : l.row.toRowW.claim.post args (.bool true) args = true :=
  postW_of (r := l.row.toRowW) (X := (true == true))
    (show WShape.has [] (.bool true) .bool = true by first | rfl | decide | simp [WShape.has, WShape.arms, WShape.armsAll])
    (show (WTm.eq .res (.lit (.bool true))).value [] { args := args, res := some (.bool true), after := args } = some (.bool (true == true)) from w_eq_bool (w_res rfl) w_lit) rfl

/-! ### the attachment: holds_open's last premise (the goal 'hc' behind k_head) from a wpAny of the law's body -/
/-- the same from a codeAny of the CALL (for a layer whose function contracts speak of calls) -/
theorem attach_call {l : OpenLaw} {n : Nat} {q : Program} {loose : List Str} {XP : (Str → Option Value) → Heap → Prop} {YP : World → Heap → Prop} {d : DefRec}
    (hn : l.most = some n) (hdf : d.params.defaults = [])
    (call : ∀ (w : World) (s₀ s₁ : Shared) (mg mb : Str → Option Value) (fa : Addr) (o : Obj) (pm cd doc : Value) (a : Addr) (vs : List Value) (ns : List Int),
      Ground q loose [] XP w s₀ mg mb s₁.heap → YP w s₁.heap →
      s₁.heap.get? fa = some o → o.data = .func (docDef d.name d.params d.body d.scope pm cd doc) → s₁.heap.CodeRec cd d.name → mg d.name = some (.ref fa) →
      s₁.heap.get? a = some { cls := .type "list", data := .seq vs.toArray } → IntsAre vs ns → ns.length ≤ n → s₁.gens = #[] →
      codeAny (model l.prog w) callerA (.call (.ref fa) ⟨[.ref a], []⟩) (fun r s' => r = .ok (.ret (.bool true)) ∧ OldK s₁.heap s'.heap ∧ s'.os = s₁.os ∧ AllBare s'.gens) s₁) :
    WalkO q loose XP YP l.row.toRowW d [] (fun f vs => PySem.call f vs) := by
  intro w s₀ s₁ mg mb G Y fa o pm cd doc dV kV ho hd hcd hD hmg hg args vals as hpre hlay hrd hwl hlo
  obtain rfl : dV = .none := Dflts.none hD hdf
  obtain rfl : kV = .none := Dflts.noKw hD
  obtain ⟨a, vs, ns, rfl, rfl, hobj, hints, hlen⟩ := script_of hn hpre hwl
  refine enter_call (codeAny_mono (call w s₀ s₁ mg mb fa o pm cd doc a vs ns G Y ho (fd_plain hd) hcd hmg hobj hints hlen hg) fun r s' hq => ?_)
  obtain ⟨rfl, h2, h3, h4⟩ := hq
  exact ⟨.inl ⟨.bool true, .bool true, [], rfl, fun _ => rfl, .bool true, post_true l _, fun _ => ⟨List.Pairwise.nil, fun _ hm => (nomatch hm)⟩⟩, h2, h3, h4⟩

/-! ### rules over ANY heap (no ledger) from facts about the written part K: the library's own take a ledger (News) for what they write -/
section
variable {prog : Program} {w : World} {A : Around} {E : Value → Shared → Prop} {s : Shared} {K : Frag}

/-! the whole heap as the ledger: makes every rule that writes through a ledger a rule over any heap -/
def ledger (h : Heap) (L d : Addr) : List (Addr × Obj) := (List.range h.objs.size).filterMap fun a => if a = L ∨ a = d then none else (h.get? a).map fun o => (a, o)
end
end Att

namespace L2
open PySem PySem.Spec PyProof.Rows

theorem vals_ints : ∀ {vs : List Value} {ns : List Int}, IntsAre vs ns → Vals (ns.map V.int) vs
  | _, _, .nil => .nil
  | _, _, .cons n t h => .cons ⟨t, rfl⟩ (vals_ints h)

/-- nothing is tracked but the script, known to the object (or it is an object of the module) -/
def Only (H : Hp) : Prop := ∀ b, H b = none ∨ ∃ o xs, H b = some (.frz o (.lst xs))

/-- THE HEAD: the law's promise, at the heap behind the top. F, the promise of the law's def, may use that base is part of the heap (so K.In base, base.Ns mainGlobals mg stand in Mod) -/
theorem law_call {P : Program} {w : World} {K : PySem.W.Frag} {mg mb : Str → Option Value} {CX : CXT} {k : Nat} {fa a : Addr} {fd : FuncData} {x : Str} {sp : Sp} {s₁ : Shared} {vs : List Value} {ns : List Int}
    (KX : K.In s₁.heap) (hns : s₁.heap.Ns mainGlobals mg) (hb : s₁.heap.Ns builtinsNs mb) (hbb : ∀ x : Str, x ≠ "__name__" → mb x = bootBuiltins x) (hlim : s₁.heap.NoLimit) (hg : s₁.gens = #[])
    (ha : s₁.heap.get? a = some { cls := .type "list", data := .seq vs.toArray }) (hi : IntsAre vs ns) (hl : ns.length ≤ sizeLine) (hr : Room k callerA)
    (F : ∀ base : Heap, K.In base → base.Ns mainGlobals mg → FnOk P w K mg base CX k fa fd [x] sp) (hbind : ∀ (s : Shared) (u : Value), BindsTo s fd ⟨[u], []⟩ [(x, u)])
    (hsp : ∀ H : Hp, Only H → SqL K H a (ns.map V.int) → sp [.ref a] H (fun v _ => v = .bl true) fun _ _ _ => False)
    (hCX : ∀ H e s', CX [] H s₁ (fun _ _ _ => False) e s' → False) :
    codeAny (model P w) callerA (.call (.ref fa) ⟨[.ref a], []⟩) (fun r s' => r = .ok (.ret (.bool true)) ∧ OldK s₁.heap s'.heap ∧ s'.os = s₁.os ∧ AllBare s'.gens) s₁ := by
  have rv := vals_ints hi
  have lenV := hi.length
  -- from an abstract heap in which nothing but the script may be tracked
  have core : ∀ H : Hp, Only H → SqL K H a (ns.map V.int) → HOk P w H s₁.heap → (∀ b, H b ≠ none → b = a) → (H a ≠ none → K.lookup a = none) →
      codeAny (model P w) callerA (.call (.ref fa) ⟨[.ref a], []⟩) (fun r s' => r = .ok (.ret (.bool true)) ∧ OldK s₁.heap s'.heap ∧ s'.os = s₁.os ∧ AllBare s'.gens) s₁ := by
    intro H hO hS hok hA hK
    have base_of : ∀ {b : Addr} {o : Obj}, s₁.heap.get? b = some o → H b = none → (hidT s₁.heap H).get? b = some o := fun e n => hidT_get e n
    have noA : ∀ {b : Addr} {o : Obj} {es : Array DictEntry} {ep : Nat}, s₁.heap.get? b = some o → o.data = .dict es ep → H b = none := fun {b o es ep} e d => by
      cases q : H b with
      | none => rfl
      | some u =>
        have e' : b = a := hA b (by rw [q]; simp)
        subst e'
        rw [ha] at e; cases e
        have d' : Data.seq vs.toArray _ = Data.dict es ep := d
        cases d'
    have nsK : ∀ {b : Addr} {m : Str → Option Value}, s₁.heap.Ns b m → (hidT s₁.heap H).Ns b m := fun {b m} ⟨o, es, ep, e, d, r⟩ => ⟨o, es, ep, base_of e (noA e d), d, r⟩
    have hKb : K.In (hidT s₁.heap H) := fun b o e => base_of (KX b o e) (by
      cases q : H b with
      | none => rfl
      | some u =>
        have e' : b = a := hA b (by rw [q]; simp)
        subst e'
        rw [hK (by rw [q]; simp)] at e; cases e)
    have hM : Mod K mg (hidT s₁.heap H) := ⟨hKb, nsK hns, ⟨mb, nsK hb, hbb⟩, let ⟨mc, h1, h2⟩ := hlim; ⟨mc, nsK h1, h2⟩⟩
    have e0 : Env0 P w K mg (hidT s₁.heap H) callerA [] s₁ H := ⟨rfl, hM, fun b o e => of_hidT e, Nat.le_of_eq (hidT_size _ _), trivial, fun b hb => absurd (show b ∈ ([] : List Addr) from hb) (by simp), hok, .of_eq hg⟩
    refine codeAny_mono ((F _ hKb (nsK hns)).run callerA [] s₁ H ⟨[.ref a], []⟩ [.ref a] [.ref a] _ _ hr e0 (hbind s₁ (.ref a)) (.cons rfl .nil) (hsp H hO hS)) fun r s' h => ?_
    cases r with
    | error e => exact (hCX H e s' h).elim
    | ok fl =>
      cases fl with
      | next => exact False.elim h
      | brk => exact False.elim h
      | cont => exact False.elim h
      | ret u =>
        obtain ⟨v, H', os, bare, un, hok', r', q⟩ := h
        have q' : v = .bl true := q
        subst q'
        obtain rfl : u = Value.bool true := r'
        refine ⟨rfl, OldK.of_keep fun b o e => ?_, os, bare⟩
        cases q : H b with
        | none => exact un.keep b o e q (by intro z; exact absurd (show b ∈ ([] : List Addr) from z) (by simp)) (by simp)
        | some u =>
          rcases hO b with z | ⟨ob, xs, z⟩
          · rw [q] at z; cases z
          · have z2 := un.frzs b ob _ z
            obtain ⟨e1, _⟩ := hok b _ z
            obtain ⟨e2, _⟩ := hok' b _ z2
            rw [e] at e1; cases e1
            exact e2
  cases hk : K.lookup a with
  | some o =>
    -- the script is one of the module's own objects
    have e := KX a o hk
    rw [ha] at e
    cases e
    refine core (fun _ => none) (fun _ => .inl rfl) (.inr ⟨_, vs.toArray, _, hk, rfl, rfl, rfl, by rw [List.size_toArray, lenV]; exact hl, by simpa using rv⟩) (fun b u z => by have z' : (none : Option HO) = some u := z; cases z') (fun b z => absurd rfl z) fun z => absurd rfl z
  | none =>
    refine core (fun b => if b = a then some (.frz { cls := .type "list", data := .seq vs.toArray } (.lst (ns.map V.int))) else none) (fun b => ?_) (.inl (.inr ⟨{ cls := .type "list", data := .seq vs.toArray }, if_pos rfl⟩)) (fun b u z => ?_) (fun b z => ?_) fun _ => hk
    · by_cases hb : b = a
      · exact .inr ⟨_, _, if_pos hb⟩
      · exact .inl (if_neg hb)
    · by_cases hb : b = a
      · have z' := (if_pos hb).symm.trans z
        cases z'
        subst hb
        exact ⟨ha, by rw [List.length_map]; exact hl, vs, _, rv, ha⟩
      · have z' := (if_neg hb).symm.trans z
        cases z'
    · by_cases hb : b = a
      · exact hb
      · exact absurd (if_neg hb) z
end L2

namespace L2
open PySem PySem.Spec PyProof.Rows

abbrev KOf {K : PySem.W.Frag} {h : Heap} (_ : K.In h) : PySem.W.Frag := K

/-- the goal that k_head leaves (case hc), from the law's promise. F gives the function object fd (K's own) once, then the promise over every base -/
theorem walk_of {l : PySem.W.OpenLaw} {n k : Nat} {q : Program} {loose : List Str} {XP : (Str → Option Value) → Heap → Prop} {YP : World → Heap → Prop} {d : DefRec} {K : Params → PySem.W.Frag} {CX : World → CXT} {sp : World → Sp} {x : Str}
    (hn : l.most = some n) (hn2 : n ≤ sizeLine) (hdf : d.params.defaults = []) (hr : Room k callerA)
    (hY : ∀ (w : World) (h : Heap), YP w h → (K w.params).In h)
    (F : ∀ (w : World) (mg : Str → Option Value) (fa : Addr) (h : Heap), (K w.params).In h → h.Ns mainGlobals mg → mg d.name = some (.ref fa) →
      ∃ fd : FuncData, (∀ (s : Shared) (u : Value), BindsTo s fd ⟨[u], []⟩ [(x, u)]) ∧
        ∀ base : Heap, (K w.params).In base → base.Ns mainGlobals mg → FnOk l.prog w (K w.params) mg base (CX w) k fa fd [x] (sp w))
    (hsp : ∀ (w : World) (H : Hp) (a : Addr) (ns : List Int), ns.length ≤ n → Only H → SqL (K w.params) H a (ns.map V.int) → sp w [.ref a] H (fun v _ => v = .bl true) fun _ _ _ => False)
    (hCX : ∀ (w : World) (H : Hp) (s : Shared) (e : Value) (s' : Shared), CX w [] H s (fun _ _ _ => False) e s' → False) :
    PySem.W.WalkO q loose XP YP l.row.toRowW d [] (fun f vs => PySem.call f vs) := by
  refine Att.attach_call hn hdf fun w s₀ s₁ mg mb fa o pm cd doc a vs ns G Y ho hd hcd hmg hobj hints hlen hg => ?_
  have KX := hY w _ Y
  obtain ⟨fd, hb, hF⟩ := F w mg fa _ KX G.T.g hmg
  exact law_call KX G.T.g G.T.b G.T.builtins G.T.nolimit hg hobj hints (Nat.le_trans hlen hn2) hr hF hb (fun H hO hS => hsp w H a ns hlen hO hS) fun H e s' => hCX w H s₁ e s'
end L2

/- THE LAST THEOREM (shape; LID, My.* are yours):
   My.Adr: a structure of the addresses that your layer names (classes, functions); My.Txt K t: a structure (Prop) of the equations over K;
   My.txt_mk : {K} {implicit addresses ..} (e1 : nsIn K mainGlobals "law" = some (some (.ref f))) (e2 : K.lookup f = some ⟨oc, od, .func (fnOf "law" "law" params body scope dV kV doc pm an cdv ct), sl⟩) (e3 : codeIn K cdv "law" = true) .. : ∃ t, My.Txt K t

set_option maxRecDepth 100000 in
set_option maxHeartbeats 0 in
theorem PySem.Challenge.cw_LID_holds : PySem.Challenge.rw_LID.Holds := by
  w_on; o_law; k_head; (case hw => w_witness2)
  k_fill
  refine L2.walk_of (l := PySem.Challenge.rw_LID) (n := 63) (k := 40) (x := "script") (CX := fun w => ..) (sp := fun _ => My.sp_law) rfl (by decide) rfl ⟨rfl, by decide, by decide⟩ (fun w h Y => PySem.W.kIn_of Y) ?F ?S ?C
  case F =>
    intro w mg fa h KX G hmg
    have T : ∃ t, My.Txt (L2.KOf KX) t := by
      dsimp only [L2.KOf]                          -- K must stand as «<heap const> w.params» for k_is
      refine' My.txt_mk ?e1 ?e2 ?e3 ..
      (case e1 => PySem.W.k_is)                    -- in the order: a name -> its address -> its object -> its parts
      (case e2 => PySem.W.k_is)
      ..
    obtain ⟨t, T⟩ := T
    have e0 := hmg.symm.trans (PySem.W.mg_of KX G T.law)
    cases e0                                       -- fa is the law's own address
    exact ⟨_, fun s u => .of_eq rfl, fun base kb nb => My.law_fn T kb nb⟩     -- if «.of_eq rfl» comes too early: refine' ⟨_, ?b, fun base kb nb => My.law_fn T kb nb⟩; exact fun s u => .of_eq rfl
  case S => exact fun w H a ns hl hO hS => ..
  case C => exact ..
(the tactic k_is has no namespace: write k_is) -/

/-! SHORT WORDS over the layer: a def of the text, its body, what a loop and a test want. -/
namespace L2
open PySem PySem.Spec PyProof.Rows

/-! ### the text by places -/
def defArgs (s : Stmt) : Arguments := match s with
  | .FunctionDef _ a _ _ _ _ _ _ _ _ => a
  | _ => { posonlyargs := [], args := [], vararg := none, kwonlyargs := [], kw_defaults := [], kwarg := none, defaults := [] }
def defBody (s : Stmt) : List Stmt := match s with
  | .FunctionDef _ _ b _ _ _ _ _ _ _ => b
  | _ => []
def defScope (s : Stmt) : Scope := match s with
  | .FunctionDef _ _ _ _ _ _ sc _ _ _ => sc
  | _ => { kind := .function, names := [], isGenerator := false, isCoroutine := false }

/-! ### no exception leaves a def -/
abbrev CX0 : CXT := fun _ _ _ _ _ _ => False
abbrev E0 : XK := fun _ _ _ => False
theorem pass0 {X : Cx} : Passes CX0 X E0 := fun _ _ _ _ _ _ _ h => h.elim

/-! ### a def (or method) of the text as it stands behind the top -/
structure Fun (K : PySem.W.Frag) (x qual : Str) (st : Stmt) (f : Addr) (fd : FuncData) : Prop where
  ex : ∃ (oc : Value) (od : Option Addr) (kV doc pm : Value) (an : Option Addr) (cdv ct : Value) (osl : Array (Option Value)),
    fd = PySem.W.fnOf x qual (defArgs st) (defBody st) (defScope st) .none kV doc pm an cdv ct ∧ K.lookup f = some ⟨oc, od, .func fd, osl⟩ ∧ PySem.W.codeIn K cdv qual = true
  kp : PySem.W.keepIn K (.ref f) = true
section
variable {P : Program} {w : World} {K : PySem.W.Frag} {mg : Str → Option Value} {base : Heap}
/-- THE RULE for a def: its body as a term of rules, and the reading of that term -/
theorem Fun.ok {x qual : Str} {st : Stmt} {f : Addr} {fd : FuncData} {N ps : List Str} {k : Nat} {sp : Sp} (F : Fun K x qual st f fd) (S : FnScope N ps (defScope st)) (len : ∀ vs H Q E, sp vs H Q E → vs.length = ps.length)
    (hbody : ∀ (cdv : Value) (A : Around) (outer : List Env) (s : Shared) (H : Hp) (vs : List V) (Q : VK) (E : XK), Room k (A.deeper (envOfC qual (defScope st) s.heap.objs.size f cdv)) → sp vs H Q E →
      ∃ t, PSs (cxOf CX0 P w K mg base N qual (defScope st) f cdv A outer s H E).nox (defBody st) t ∧ t { nx := fun _ H' => Q .non H', rt := Q } (start N vs) H) : FnOk P w K mg base CX0 (k + 1) f fd ps sp := by
  obtain ⟨oc, od, kV, doc, pm, an, cdv, ct, osl, rfl, lk, hcd⟩ := F.ex
  refine fn_of lk hcd S len fun A outer s H vs Q E hr hsp => ?_
  obtain ⟨t, h, q⟩ := hbody cdv A outer s H vs Q E hr hsp
  exact ⟨t, h.nox, q⟩
/-- how its arguments bind (no defaults): h is «fun _ _ _ _ _ _ us hl => match us, hl with | [_, _], _ => rfl», one _ a parameter -/
theorem Fun.binds {x qual : Str} {st : Stmt} {f : Addr} {fd : FuncData} {ps : List Str} (F : Fun K x qual st f fd)
    (h : ∀ (kV doc pm : Value) (an : Option Addr) (cdv ct : Value) (us : List Value), us.length = ps.length → bindArgs (PySem.W.fnOf x qual (defArgs st) (defBody st) (defScope st) .none kV doc pm an cdv ct) ⟨us, []⟩ = pure (ps.zip us)) : Binds K fd ps [] := by
  obtain ⟨oc, od, kV, doc, pm, an, cdv, ct, osl, rfl, lk, hcd⟩ := F.ex
  exact .all (h kV doc pm an cdv ct)
theorem fun_mk {x qual : Str} {st : Stmt} {f : Addr} {oc : Value} {od an : Option Addr} {osl : Array (Option Value)} {kV doc pm cdv ct : Value} (l : K.lookup f = some ⟨oc, od, .func (PySem.W.fnOf x qual (defArgs st) (defBody st) (defScope st) .none kV doc pm an cdv ct), osl⟩)
    (c : PySem.W.codeIn K cdv qual = true) (k : PySem.W.keepIn K (.ref f) = true) : Fun K x qual st f (PySem.W.fnOf x qual (defArgs st) (defBody st) (defScope st) .none kV doc pm an cdv ct) := ⟨⟨oc, od, kV, doc, pm, an, cdv, ct, osl, rfl, l, c⟩, k⟩
end
/-! ### expressions in short: the name that stands in the i-th slot -/
section
variable {X : Cx}
theorem pv (i : Nat) {x : Str} {pos : Pos} (hN : X.N[i]? = some x := by rfl) (hv : Vis X.env.scope x := by first | exact Or.inl rfl | exact Or.inr (Or.inl rfl) | exact Or.inr (Or.inr rfl)) (hd : (x == ("__debug__" : Str)) = false := by decide)
    (hcd : (x == ("__classdict__" : Str)) = false := by decide) : PE X (.Name x pos) (tVar i) := pe_var hN hv hd hcd
/-- len of a dict -/
theorem call_lenD : CallR X (.builtin "len") (fun xs H Q => ∃ a kvs, xs = [V.ref a] ∧ H a = some (.dK kvs) ∧ Q (.int kvs.length) H) := by
  intro pins s σ H xs us Q I r h
  obtain ⟨a, kvs, rfl, ha, q⟩ := h
  obtain ⟨u, rfl, ru⟩ := vals1 r
  cases ru
  exact d_len I (.inl ha) fun t s' I' => ⟨.int kvs.length, H, I', ⟨t, rfl⟩, q⟩
end

/-! ### tests -/
theorem iteF {A B : Prop} (h : B) : if false = true then A else B := by
  rw [if_neg Bool.false_ne_true]
  exact h
theorem iteT {A B : Prop} (h : A) : if true = true then A else B := by
  rw [if_pos rfl]
  exact h
/-! ### heaps -/
/-- all that was tracked is as it was -/
def Same (H H' : Hp) : Prop := ∀ b o, H b = some o → H' b = some o
theorem Same.refl (H : Hp) : Same H H := fun _ _ h => h
theorem Same.trans {H H1 H2 : Hp} (a : Same H H1) (b : Same H1 H2) : Same H H2 := fun c o h => b c o (a c o h)
theorem Same.free {H H' : Hp} (e : Same H H') {l : Addr} (h : H' l = Option.none) : H l = Option.none := by
  cases q : H l with
  | none => rfl
  | some o =>
    rw [e l o q] at h
    cases h
theorem Same.seq {K : PySem.W.Frag} {H H' : Hp} {a : Addr} {xs : List V} (e : Same H H') (h : SqL K H a xs) : SqL K H' a xs := by
  rcases h with (h | ⟨o, h⟩) | h
  · exact .inl (.inl (e _ _ h))
  · exact .inl (.inr ⟨o, e _ _ h⟩)
  · exact .inr h

/-! ### a dict's pairs: keys that differ -/
section
variable {κ : Type} [DecidableEq κ]
end
/-! ### lists -/
/-- a new instance and its __init__ leave all that was tracked as it was -/
theorem Same.made {H H1 : Hp} {x dx C : Addr} (nx : H x = Option.none) (nd : H dx = Option.none) (k : ∀ b o, (upd (upd H dx (.own x)) x (.ins C dx [])) b = some o → b ≠ x → H1 b = some o) : Same H H1 := fun b o e =>
  k b o (by rw [upd_ne (ne_of_none e nx), upd_ne (ne_of_none e nd)]; exact e) (ne_of_none e nx)
end L2

/-! generators are never lost: the table of generators only grows -/
namespace M
open PySem PySem.Spec PyProof.Rows L2
end M

namespace M
open PySem PySem.Spec PyProof.Rows L2

section
variable {X : Cx} {pins : List (Addr × Obj)} {σ : L2.St} {H : Hp} {s : Shared}
end
end M

namespace M
open PySem PySem.Spec PyProof.Rows L2

/-- at the head of the block's loop -/
def LoopInv (G : Cx) (pin : List (Addr × Obj)) (σ0 : L2.St) (fp : List Addr) (tn : Nat → Heap → Prop) (W : Nat → Nat → Hp → Prop) (m : Nat) (s : Shared) : Prop :=
  ∃ i H', Inv G pin σ0 H' s ∧ tn i s.heap ∧ (∀ b ∈ fp, H' b = none) ∧ W i m H'
def EndInv (G : Cx) (pin : List (Addr × Obj)) (Q : Hp → Prop) (s : Shared) : Prop := ∃ σ' H', Inv G pin σ' H' s ∧ Q H'
section
variable {G : Cx} {A0 : Around} {pin : List (Addr × Obj)} {σ0 : L2.St} {fp : List Addr} {tn : Nat → Heap → Prop} {W : Nat → Nat → Hp → Prop} {isAll : Bool} {Qe Qs : Hp → Prop} {J : It} {it : Addr} {elt tg iter : Expr} {ifs : List Expr} {scope : Scope} {pos : Pos} {g : TG} {tt : TT} {te : TE} {vs : List Nat}
end
end M

namespace M
open PySem PySem.Spec PyProof.Rows L2

theorem _root_.L2.Inv.regen {X : Cx} {pins : List (Addr × Obj)} {σ : L2.St} {H : Hp} {s : Shared} {g' : Array GenState} (I : Inv X pins σ H s) (hb : AllBare g') : Inv X pins σ H { s with gens := g' } :=
  ⟨I.ok, I.os, hb, I.base, I.loc, I.cell, I.free, I.freeC, I.pin, I.hok, I.len⟩
theorem bare_set {gens : Array GenState} {g : Nat} {x : GenState} (h : AllBare gens) (hx : x.bare = true) : AllBare (gens.set! g x) := fun y hy => by
  rw [Array.set!_eq_setIfInBounds] at hy
  obtain ⟨i, hi, rfl⟩ := Array.mem_iff_getElem.mp hy
  have hi2 : i < gens.size := by rw [Array.size_setIfInBounds] at hi; exact hi
  rw [Array.getElem_setIfInBounds hi2]
  split
  · exact hx
  · exact h _ (Array.getElem_mem hi2)
theorem _root_.L2.Inv.setGen {X : Cx} {pins : List (Addr × Obj)} {σ : L2.St} {H : Hp} {s : Shared} {g : Nat} {x : GenState} (I : Inv X pins σ H s) (hx : x.bare = true) : Inv X pins σ H (s.setGen g x) := I.regen (bare_set I.bare hx)
theorem LoopInv.setGen {G : Cx} {pin : List (Addr × Obj)} {σ0 : L2.St} {fp : List Addr} {tn : Nat → Heap → Prop} {W : Nat → Nat → Hp → Prop} {m : Nat} {s : Shared} {g : Nat} {x : GenState} (l : LoopInv G pin σ0 fp tn W m s) (hx : x.bare = true) : LoopInv G pin σ0 fp tn W m (s.setGen g x) :=
  let ⟨i, H', I, st, nf, w⟩ := l; ⟨i, H', I.setGen hx, st, nf, w⟩
theorem EndInv.setGen {G : Cx} {pin : List (Addr × Obj)} {Q : Hp → Prop} {s : Shared} {g : Nat} {x : GenState} (l : EndInv G pin Q s) (hx : x.bare = true) : EndInv G pin Q (s.setGen g x) :=
  let ⟨i, H', I, q⟩ := l; ⟨i, H', I.setGen hx, q⟩
theorem EndInv.kept {G : Cx} {pin : List (Addr × Obj)} {Q : Hp → Prop} {s : Shared} {h' : Heap} (l : EndInv G pin Q s) (k : ∀ b o, s.heap.get? b = some o → h'.get? b = some o) : EndInv G pin Q { s with heap := h' } :=
  let ⟨i, H', I, q⟩ := l; ⟨i, H', I.kept (t' := s.toks) k, q⟩

section
variable {G : Cx} {A0 : Around} {pin : List (Addr × Obj)} {σ0 : L2.St} {fp : List Addr} {tn : Nat → Heap → Prop} {W : Nat → Nat → Hp → Prop} {isAll : Bool} {Qe Qs : Hp → Prop} {J : It} {it : Addr} {elt tg iter : Expr} {ifs : List Expr} {scope : Scope} {pos : Pos} {g : TG} {tt : TT} {te : TE} {vs : List Nat}
end
end M

namespace M
open PySem PySem.Spec PyProof.Rows L2
section
variable {G : Cx} {pin : List (Addr × Obj)} {σ0 : L2.St} {fp : List Addr} {tn : Nat → Heap → Prop} {W : Nat → Nat → Hp → Prop} {Qe Qs : Hp → Prop} {A : Around} {a : Addr} {gn : Nat} {go : Obj}
end
end M

namespace M
open PySem PySem.Spec PyProof.Rows L2

/-- what the built-ins' module looks like -/
def BMod (mg : Str → Option Value) (base : Heap) : Prop := ∃ bm ob, mg "__builtins__" = some (.ref bm) ∧ bm ≠ builtinsNs ∧ base.get? bm = some ob ∧ ob.cls = .type "module" ∧ ob.dict = some builtinsNs ∧ ob.data = .plain
end M

namespace M
open PySem PySem.Spec PyProof.Rows L2

/-- a def's table grows -/
theorem _root_.L2.Inv.grown {X : Cx} {pins : List (Addr × Obj)} {σ : L2.St} {H : Hp} {s : Shared} {P : Addr} {ps more : Array Value} {h' : Heap} {t' : Nat} (I : Inv X pins σ H s) (hP : H P = some (.tbl ps)) (ext : Heap.ExtBut P s.heap h') (hp : h'.get? P = some (PySem.W.tabObj (ps ++ more))) :
    Inv X pins σ (upd H P (.tbl (ps ++ more))) { s with heap := h', toks := t' } := by
  have ne : ∀ b, H b = none → b ≠ P := fun b n z => by rw [z, hP] at n; cases n
  refine I.un ⟨fun b o e n _ _ => ext b o (ne b n) e, fun b o e n _ _ => ⟨o.slots, ext b o (ne b n) e⟩, fun b o e n _ => by rw [upd_ne (ne b n)]; exact n, fun b o e _ => ?_, fun b xs e => ?_, fun b o u e => ?_, fun b qs e => ?_⟩ fun b u e => ?_
  · by_cases hb : b = P
    · subst hb; exact ⟨_, hp⟩
    · exact ⟨o, ext b o hb e⟩
  · rw [upd_ne (ne_of e hP (by intro z; cases z))]; exact e
  · rw [upd_ne (ne_of e hP (by intro z; cases z))]; exact e
  · by_cases hb : b = P
    · subst hb
      rw [hP] at e; cases e
      exact ⟨more, upd_same⟩
    · exact ⟨#[], by rw [upd_ne hb, e]; simp⟩
  · by_cases hb : b = P
    · subst hb
      rw [upd_same] at e; cases e
      exact hp
    · rw [upd_ne hb] at e
      refine (I.hok b u e).stay (fun c v hc q => ext c v ?_ q) (fun c q => ?_) fun c xs q => ?_
      · rcases hc with rfl | hc
        · exact hb
        · exact ne_of hc hP (by intro z; cases z)
      · rw [upd_ne (ne_of q hP (by intro z; cases z))]; exact q
      · rw [upd_ne (ne_of q hP (by intro z; cases z))]; exact q

section
variable {X : Cx}
end
end M

namespace L2
open PySem PySem.Spec PyProof.Rows
/-- an exception that was caught -/
def XeO (e : Addr) (cls : Value) (dx : Addr) : HO := .ext fun h => ∃ oe vs, h.get? e = some oe ∧ oe.cls = cls ∧ oe.dict = some dx ∧ oe.data = .fields vs
end L2

/-! PLAIN VALUES over the hand layer: tuples are values, only what may change lies in a store. -/
namespace M
open PySem PySem.Spec PyProof.Rows L2


/-- a plain value: a tuple is its items, a thing that may change is its number in the store -/
inductive PV where
  | non | bl (b : Bool) | int (i : Int) | str (x : Str) | tup (xs : List PV) | ref (n : Nat) | ty (n : String) | adr (a : Addr) | kls (xs : List PV)

/-- what lies in the store: a list, a list that is only read, a dict, an instance -/
inductive MO where
  | lst (xs : List PV) | ro (xs : List PV) | dct (kvs : List (Key × PV)) | ins (C : Addr) (fs : List (Str × PV)) | exc (c : Str) (fs : List (Str × PV))

abbrev Sto := List MO
abbrev Fr := List (Option PV)
abbrev Post := PV → Sto → Prop
abbrev WE := Fr → Sto → Post → Prop
abbrev WT := Fr → Sto → (Bool → Sto → Prop) → Prop
abbrev WA := Fr → Sto → (List PV → Sto → Prop) → Prop
structure PD where
  nx : Fr → Sto → Prop
  rt : Post
  bk : Fr → Sto → Prop := fun _ _ => False
  ct : Fr → Sto → Prop := fun _ _ => False
abbrev WS := PD → Fr → Sto → Prop

/-! ### how plain things lie in the abstract heap -/
/-- a list among the module's own objects -/
def KL (K : PySem.W.Frag) (a : Addr) (vs : List V) : Prop := ∃ (o : Obj) (its : Array Value) (n : Nat), K.lookup a = some o ∧ o.cls = .type "list" ∧ o.dict = none ∧ o.data = .seq its n ∧ its.size ≤ sizeLine ∧ Vals vs its.toList
theorem KL.sq {K : PySem.W.Frag} {H : Hp} {a : Addr} {vs : List V} (h : KL K a vs) : SqL K H a vs := .inr h
mutual
inductive RV (K : PySem.W.Frag) (ι : List Addr) (H : Hp) : PV → V → Prop
  | non : RV K ι H .non .non
  | bl (b : Bool) : RV K ι H (.bl b) (.bl b)
  | int (i : Int) : RV K ι H (.int i) (.int i)
  | str (x : Str) : RV K ι H (.str x) (.str x)
  | ty (n : String) : RV K ι H (.ty n) (.ty n)
  | adr (a : Addr) : RV K ι H (.adr a) (.ref a)
  | tup {a : Addr} {xs : List PV} {vs : List V} : SqT K H a vs → RVs K ι H xs vs → RV K ι H (.tup xs) (.ref a)
  | ref {n : Nat} {a : Addr} : ι[n]? = some a → RV K ι H (.ref n) (.ref a)
  | kls {a : Addr} {xs : List PV} {vs : List V} : KL K a vs → RVs K ι H xs vs → RV K ι H (.kls xs) (.ref a)
inductive RVs (K : PySem.W.Frag) (ι : List Addr) (H : Hp) : List PV → List V → Prop
  | nil : RVs K ι H [] []
  | cons {p : PV} {v : V} {ps : List PV} {vs : List V} : RV K ι H p v → RVs K ι H ps vs → RVs K ι H (p :: ps) (v :: vs)
end

def HidO : HO → Prop
  | .lst _ => True
  | .dK _ => True
  | .xd _ => True
  | _ => False
structure Fut (K : PySem.W.Frag) (ι : List Addr) (H : Hp) (ι' : List Addr) (H' : Hp) : Prop where
  pre : ∀ (n : Nat) (a : Addr), ι[n]? = some a → ι'[n]? = some a
  tup : ∀ (a : Addr) (xs : List V), SqT K H a xs → SqT K H' a xs
  /-- a list or dict that lies outside the store stays, and stays outside -/
  hid : ∀ (a : Addr) (o : HO), HidO o → a ∉ ι → H a = some o → a ∉ ι' ∧ H' a = some o

theorem Fut.refl {K : PySem.W.Frag} {ι : List Addr} {H : Hp} : Fut K ι H ι H := ⟨fun _ _ h => h, fun _ _ h => h, fun _ _ _ h q => ⟨h, q⟩⟩
theorem Fut.trans {K : PySem.W.Frag} {ι ι1 ι2 : List Addr} {H H1 H2 : Hp} (f : Fut K ι H ι1 H1) (g : Fut K ι1 H1 ι2 H2) : Fut K ι H ι2 H2 :=
  ⟨fun n a h => g.pre n a (f.pre n a h), fun a xs h => g.tup a xs (f.tup a xs h), fun a o z h q => g.hid a o z (f.hid a o z h q).1 (f.hid a o z h q).2⟩
/-- the code tables that are tracked from the law's entry on; what has been true since a def's or a try's entry -/
class Tabs where
  T : Addr → Prop
  since : PySem.W.Frag → List Addr → Hp → Prop
  mono : ∀ {K : PySem.W.Frag} {ι ι' : List Addr} {H H' : Hp}, since K ι H → Fut K ι H ι' H' → since K ι' H'
variable [Tabs]

mutual
theorem RV.mv {K : PySem.W.Frag} {ι ι' : List Addr} {H H' : Hp} (f : ∀ (n : Nat) (a : Addr), ι[n]? = some a → ι'[n]? = some a) (g : ∀ (a : Addr) (xs : List V), SqT K H a xs → SqT K H' a xs) : ∀ {p : PV} {v : V}, RV K ι H p v → RV K ι' H' p v
  | _, _, .non => .non
  | _, _, .bl b => .bl b
  | _, _, .int i => .int i
  | _, _, .str x => .str x
  | _, _, .ty n => .ty n
  | _, _, .adr a => .adr a
  | _, _, .tup h r => .tup (g _ _ h) (RVs.mv f g r)
  | _, _, .ref h => .ref (f _ _ h)
  | _, _, .kls h r => .kls h (RVs.mv f g r)
theorem RVs.mv {K : PySem.W.Frag} {ι ι' : List Addr} {H H' : Hp} (f : ∀ (n : Nat) (a : Addr), ι[n]? = some a → ι'[n]? = some a) (g : ∀ (a : Addr) (xs : List V), SqT K H a xs → SqT K H' a xs) : ∀ {ps : List PV} {vs : List V}, RVs K ι H ps vs → RVs K ι' H' ps vs
  | _, _, .nil => .nil
  | _, _, .cons r t => .cons (RV.mv f g r) (RVs.mv f g t)
end

mutual
theorem RV.fut {K : PySem.W.Frag} {ι ι' : List Addr} {H H' : Hp} (f : Fut K ι H ι' H') : ∀ {p : PV} {v : V}, RV K ι H p v → RV K ι' H' p v
  | _, _, .non => .non
  | _, _, .bl b => .bl b
  | _, _, .int i => .int i
  | _, _, .str x => .str x
  | _, _, .ty n => .ty n
  | _, _, .adr a => .adr a
  | _, _, .tup h r => .tup (f.tup _ _ h) (RVs.fut f r)
  | _, _, .ref h => .ref (f.pre _ _ h)
  | _, _, .kls h r => .kls h (RVs.fut f r)
theorem RVs.fut {K : PySem.W.Frag} {ι ι' : List Addr} {H H' : Hp} (f : Fut K ι H ι' H') : ∀ {ps : List PV} {vs : List V}, RVs K ι H ps vs → RVs K ι' H' ps vs
  | _, _, .nil => .nil
  | _, _, .cons r t => .cons (RV.fut f r) (RVs.fut f t)
end

section
variable {K : PySem.W.Frag} {ι : List Addr} {H : Hp}
theorem RVs.length : ∀ {ps : List PV} {vs : List V}, RVs K ι H ps vs → ps.length = vs.length
  | _, _, .nil => rfl
  | _, _, .cons _ t => by rw [List.length_cons, List.length_cons, RVs.length t]
theorem RVs.get : ∀ {ps : List PV} {vs : List V} {i : Nat} {p : PV}, RVs K ι H ps vs → ps[i]? = some p → ∃ v, vs[i]? = some v ∧ RV K ι H p v
  | _, _, _, _, .nil, e => by simp at e
  | _, _, 0, _, .cons r _, e => by simp at e; subst e; exact ⟨_, rfl, r⟩
  | _, _, i + 1, p, .cons _ t, e => by
    obtain ⟨v, h1, h2⟩ := RVs.get (i := i) (p := p) t (by simpa using e)
    exact ⟨v, by simpa using h1, h2⟩
theorem RVs.get' : ∀ {ps : List PV} {vs : List V} {i : Nat} {v : V}, RVs K ι H ps vs → vs[i]? = some v → ∃ p, ps[i]? = some p ∧ RV K ι H p v
  | _, _, _, _, .nil, e => by simp at e
  | _, _, 0, _, .cons r _, e => by simp at e; subst e; exact ⟨_, rfl, r⟩
  | _, _, i + 1, v, .cons _ t, e => by
    obtain ⟨p, h1, h2⟩ := RVs.get' (i := i) (v := v) t (by simpa using e)
    exact ⟨p, by simpa using h1, h2⟩
theorem RVs.append : ∀ {ps qs : List PV} {vs ws : List V}, RVs K ι H ps vs → RVs K ι H qs ws → RVs K ι H (ps ++ qs) (vs ++ ws)
  | _, _, _, _, .nil, s => s
  | _, _, _, _, .cons r t, s => .cons r (RVs.append t s)
theorem RVs.take : ∀ {ps : List PV} {vs : List V} (n : Nat), RVs K ι H ps vs → RVs K ι H (ps.take n) (vs.take n)
  | _, _, 0, _ => .nil
  | _, _, _ + 1, .nil => .nil
  | _, _, n + 1, .cons r t => .cons r (RVs.take n t)
theorem RVs.drop : ∀ {ps : List PV} {vs : List V} (n : Nat), RVs K ι H ps vs → RVs K ι H (ps.drop n) (vs.drop n)
  | _, _, 0, r => r
  | _, _, _ + 1, .nil => .nil
  | _, _, n + 1, .cons _ t => RVs.drop n t
theorem RVs.set {p : PV} {v : V} (r : RV K ι H p v) : ∀ {ps : List PV} {vs : List V} (i : Nat), RVs K ι H ps vs → RVs K ι H (ps.set i p) (vs.set i v)
  | _, _, _, .nil => .nil
  | _, _, 0, .cons _ t => .cons r t
  | _, _, i + 1, .cons q t => .cons q (RVs.set r i t)
theorem RVs.ints : ∀ ns : List Int, RVs K ι H (ns.map PV.int) (ns.map V.int)
  | [] => .nil
  | n :: ns => .cons (.int n) (RVs.ints ns)
end

/-- a dict's entries, an instance's fields -/
inductive RKs {κ : Type} (K : PySem.W.Frag) (ι : List Addr) (H : Hp) : List (κ × PV) → List (κ × V) → Prop
  | nil : RKs K ι H [] []
  | cons {k : κ} {p : PV} {v : V} {ps : List (κ × PV)} {vs : List (κ × V)} : RV K ι H p v → RKs K ι H ps vs → RKs K ι H ((k, p) :: ps) ((k, v) :: vs)
theorem RKs.fut {κ : Type} {K : PySem.W.Frag} {ι ι' : List Addr} {H H' : Hp} (f : Fut K ι H ι' H') : ∀ {ps : List (κ × PV)} {vs : List (κ × V)}, RKs K ι H ps vs → RKs K ι' H' ps vs
  | _, _, .nil => .nil
  | _, _, .cons r t => .cons (r.fut f) (RKs.fut f t)

theorem RKs.mv {κ : Type} {K : PySem.W.Frag} {ι ι' : List Addr} {H H' : Hp} (f : ∀ (n : Nat) (a : Addr), ι[n]? = some a → ι'[n]? = some a) (g : ∀ (a : Addr) (xs : List V), SqT K H a xs → SqT K H' a xs) : ∀ {ps : List (κ × PV)} {vs : List (κ × V)}, RKs K ι H ps vs → RKs K ι' H' ps vs
  | _, _, .nil => .nil
  | _, _, .cons r t => .cons (r.mv f g) (RKs.mv f g t)
def RO (K : PySem.W.Frag) (ι : List Addr) (H : Hp) (a : Addr) : MO → Prop
  | .lst xs => ∃ vs, H a = some (.lst vs) ∧ RVs K ι H xs vs
  | .ro xs => ∃ vs, (∃ o, H a = some (.frz o (.lst vs))) ∧ RVs K ι H xs vs
  | .dct kvs => ∃ ws, H a = some (.dK ws) ∧ RKs K ι H kvs ws
  | .ins C fs => ∃ dx ws, H a = some (.ins C dx ws) ∧ RKs K ι H fs ws
  | .exc c fs => ∃ C dx ws, PySem.W.nsIn K mainGlobals c = some (some (.ref C)) ∧ H a = some (XeO a (.ref C) dx) ∧ dx ∉ ι ∧ H dx = some (.xd ws) ∧ RKs K ι H fs ws
theorem RO.fut {K : PySem.W.Frag} {ι ι' : List Addr} {H H' : Hp} {a : Addr} {o : MO} (f : Fut K ι H ι' H') (e : H' a = H a) (h : RO K ι H a o) : RO K ι' H' a o := by
  cases o with
  | lst xs => obtain ⟨vs, h, r⟩ := h; exact ⟨vs, e.trans h, r.fut f⟩
  | ro xs => obtain ⟨vs, ⟨o, h⟩, r⟩ := h; exact ⟨vs, ⟨o, e.trans h⟩, r.fut f⟩
  | dct kvs => obtain ⟨ws, h, r⟩ := h; exact ⟨ws, e.trans h, r.fut f⟩
  | ins C fs => obtain ⟨dx, ws, h, r⟩ := h; exact ⟨dx, ws, e.trans h, r.fut f⟩
  | exc c fs =>
    obtain ⟨C, dx, ws, h0, h, h1, h2, r⟩ := h
    obtain ⟨h3, h4⟩ := f.hid dx (.xd ws) True.intro h1 h2
    exact ⟨C, dx, ws, h0, e.trans h, h3, h4, r.fut f⟩
theorem RO.mv {K : PySem.W.Frag} {ι ι' : List Addr} {H H' : Hp} {a : Addr} {o : MO} (f : ∀ (n : Nat) (a : Addr), ι[n]? = some a → ι'[n]? = some a) (g : ∀ (a : Addr) (xs : List V), SqT K H a xs → SqT K H' a xs) (x : ∀ d ws, d ∉ ι → H d = some (.xd ws) → d ∉ ι' ∧ H' d = some (.xd ws)) (e : H' a = H a) (h : RO K ι H a o) : RO K ι' H' a o := by
  cases o with
  | lst xs => obtain ⟨vs, h, r⟩ := h; exact ⟨vs, e.trans h, r.mv f g⟩
  | ro xs => obtain ⟨vs, ⟨o, h⟩, r⟩ := h; exact ⟨vs, ⟨o, e.trans h⟩, r.mv f g⟩
  | dct kvs => obtain ⟨ws, h, r⟩ := h; exact ⟨ws, e.trans h, r.mv f g⟩
  | ins C fs => obtain ⟨dx, ws, h, r⟩ := h; exact ⟨dx, ws, e.trans h, r.mv f g⟩
  | exc c fs =>
    obtain ⟨C, dx, ws, h0, h, h1, h2, r⟩ := h
    obtain ⟨h3, h4⟩ := x dx ws h1 h2
    exact ⟨C, dx, ws, h0, e.trans h, h3, h4, r.mv f g⟩
theorem RO.stands {K : PySem.W.Frag} {ι : List Addr} {H : Hp} {a : Addr} {o : MO} (h : RO K ι H a o) : ∃ u, H a = some u ∧ ∀ xs, u ≠ .tup xs ∧ ∀ ob, u ≠ .frz ob (.tup xs) := by
  cases o with
  | lst xs => obtain ⟨vs, h, r⟩ := h; exact ⟨_, h, fun _ => ⟨(by intro z; cases z), (by intro _ z; cases z)⟩⟩
  | ro xs => obtain ⟨vs, ⟨o, h⟩, r⟩ := h; exact ⟨_, h, fun _ => ⟨(by intro z; cases z), (by intro _ z; cases z)⟩⟩
  | dct kvs => obtain ⟨ws, h, r⟩ := h; exact ⟨_, h, fun _ => ⟨(by intro z; cases z), (by intro _ z; cases z)⟩⟩
  | ins C fs => obtain ⟨dx, ws, h, r⟩ := h; exact ⟨_, h, fun _ => ⟨(by intro z; cases z), (by intro _ z; cases z)⟩⟩
  | exc c fs => obtain ⟨C, dx, ws, _, h, _⟩ := h; exact ⟨_, h, fun _ => ⟨(by intro z; cases z), (by intro _ z; cases z)⟩⟩

theorem RO.stands' {K : PySem.W.Frag} {ι : List Addr} {H : Hp} {a : Addr} {o : MO} (h : RO K ι H a o) : ∃ u, H a = some u ∧ True ∧ ∀ ps, u ≠ .tbl ps := by
  cases o with
  | lst xs => obtain ⟨vs, h, r⟩ := h; exact ⟨_, h, trivial, (by intro _ z; cases z)⟩
  | ro xs => obtain ⟨vs, ⟨o, h⟩, r⟩ := h; exact ⟨_, h, trivial, (by intro _ z; cases z)⟩
  | dct kvs => obtain ⟨ws, h, r⟩ := h; exact ⟨_, h, trivial, (by intro _ z; cases z)⟩
  | ins C fs => obtain ⟨dx, ws, h, r⟩ := h; exact ⟨_, h, trivial, (by intro _ z; cases z)⟩
  | exc c fs => obtain ⟨C, dx, ws, _, h, _⟩ := h; exact ⟨_, h, trivial, (by intro _ z; cases z)⟩

structure RS (K : PySem.W.Frag) (ι : List Addr) (H : Hp) (S : Sto) : Prop where
  len : ι.length = S.length
  nd : ι.Nodup
  obj : ∀ (n : Nat) (o : MO), S[n]? = some o → ∃ a, ι[n]? = some a ∧ RO K ι H a o
  tab : ∀ P, Tabs.T P → ∃ ps : Array Value, H P = some (.tbl ps) ∧ TriplesOk ps.toList
  si : Tabs.since K ι H
structure RF (K : PySem.W.Frag) (ι : List Addr) (H : Hp) (fr : Fr) (σ : L2.St) : Prop where
  len : fr.length = σ.length
  at_ : ∀ (i : Nat) (p : PV), fr[i]? = some (some p) → ∃ v, σ[i]? = some (some v) ∧ RV K ι H p v
theorem RF.fut {K : PySem.W.Frag} {ι ι' : List Addr} {H H' : Hp} {fr : Fr} {σ : L2.St} (f : Fut K ι H ι' H') (r : RF K ι H fr σ) : RF K ι' H' fr σ :=
  ⟨r.len, fun i p e => let ⟨v, h1, h2⟩ := r.at_ i p e; ⟨v, h1, h2.fut f⟩⟩

section
variable {K : PySem.W.Frag} {ι : List Addr} {H : Hp} {S : Sto}
/-- two numbers, one address: one number -/
theorem RS.inj (r : RS K ι H S) {m n : Nat} {a : Addr} (h1 : ι[m]? = some a) (h2 : ι[n]? = some a) : m = n := by
  have l1 := (List.getElem?_eq_some_iff.mp h1)
  have l2 := (List.getElem?_eq_some_iff.mp h2)
  obtain ⟨p1, e1⟩ := l1
  obtain ⟨p2, e2⟩ := l2
  exact (List.getElem_inj r.nd).mp (e1.trans e2.symm)
theorem RS.there (r : RS K ι H S) {n : Nat} {o : MO} {a : Addr} (h : S[n]? = some o) (ha : ι[n]? = some a) : RO K ι H a o := by
  obtain ⟨b, h1, h2⟩ := r.obj n o h
  rw [ha] at h1; cases h1
  exact h2
/-- something new is laid that is no thing of the store -/
theorem fut_new {a : Addr} {o : HO} (hn : H a = none) : Fut K ι H ι (upd H a o) := ⟨fun _ _ h => h, fun b xs h => by
  rcases h with (h | ⟨ob, h⟩) | h
  · exact .inl (.inl (by rw [upd_ne (ne_of_none h hn)]; exact h))
  · exact .inl (.inr ⟨ob, by rw [upd_ne (ne_of_none h hn)]; exact h⟩)
  · exact .inr h, fun b o z h q => ⟨h, by rw [upd_ne (ne_of_none q hn)]; exact q⟩⟩
theorem RS.new {a : Addr} {o : HO} (r : RS K ι H S) (hn : H a = none) : RS K ι (upd H a o) S := ⟨r.len, r.nd, fun n u e => by
  obtain ⟨b, h1, h2⟩ := r.obj n u e
  obtain ⟨w, hw, _⟩ := h2.stands
  exact ⟨b, h1, h2.fut (fut_new hn) (upd_ne (ne_of_none hw hn))⟩, fun P hP => let ⟨ps, e, t⟩ := r.tab P hP; ⟨ps, by rw [upd_ne (ne_of_none e hn)]; exact e, t⟩, Tabs.mono r.si (fut_new hn)⟩
/-- a new thing of the store -/
theorem fut_lay {a : Addr} {o : HO} (hn : H a = none) : Fut K ι H (ι ++ [a]) (upd H a o) :=
  ⟨fun n b h => by rw [List.getElem?_append_left (List.getElem?_eq_some_iff.mp h).1]; exact h, (fut_new (ι := ι) hn).tup,
    fun b o z h q => ⟨by simp only [List.mem_append, List.mem_singleton, not_or]; exact ⟨h, ne_of_none q hn⟩, by rw [upd_ne (ne_of_none q hn)]; exact q⟩⟩
theorem RS.fresh (r : RS K ι H S) {a : Addr} (hn : H a = none) : a ∉ ι := fun hm => by
  obtain ⟨n, hn', rfl⟩ := List.getElem_of_mem hm
  have hl : n < S.length := by rw [← r.len]; exact hn'
  obtain ⟨b, h1, h2⟩ := r.obj n S[n] (by simp [hl])
  rw [List.getElem?_eq_getElem hn'] at h1
  cases h1
  obtain ⟨w, hw, _⟩ := h2.stands
  rw [hn] at hw; cases hw
theorem RS.lay {a : Addr} {o : HO} {m : MO} (r : RS K ι H S) (hn : H a = none) (hm : RO K (ι ++ [a]) (upd H a o) a m) : RS K (ι ++ [a]) (upd H a o) (S ++ [m]) where
  len := by rw [List.length_append, List.length_append, r.len]; rfl
  nd := by
    rw [List.nodup_append]
    refine ⟨r.nd, by simp, fun x hx y hy => ?_⟩
    simp only [List.mem_singleton] at hy
    subst hy
    rintro rfl
    exact r.fresh hn hx
  obj := fun n u e => by
    by_cases hl : n < S.length
    · rw [List.getElem?_append_left hl] at e
      obtain ⟨b, h1, h2⟩ := r.obj n u e
      obtain ⟨w, hw, _⟩ := h2.stands
      exact ⟨b, (fut_lay (K := K) (o := o) hn).pre n b h1, h2.fut (fut_lay hn) (upd_ne (ne_of_none hw hn))⟩
    · have hl2 : n = S.length := by
        have := (List.getElem?_eq_some_iff.mp e).1
        rw [List.length_append, List.length_singleton] at this
        omega
      subst hl2
      rw [List.getElem?_append_right (Nat.le_refl _)] at e
      simp only [Nat.sub_self, List.getElem?_cons_zero, Option.some.injEq] at e
      subst e
      refine ⟨a, ?_, hm⟩
      rw [← r.len, List.getElem?_append_right (Nat.le_refl _)]
      simp
  tab := fun P hP => let ⟨ps, e, t⟩ := r.tab P hP; ⟨ps, by rw [upd_ne (ne_of_none e hn)]; exact e, t⟩
  si := Tabs.mono r.si (fut_lay hn)
/-- a thing of the store changes -/
theorem fut_upd (r : RS K ι H S) {n : Nat} {a : Addr} {m : MO} {o : HO} (ha : ι[n]? = some a) (hm : S[n]? = some m) : Fut K ι H ι (upd H a o) := ⟨fun _ _ h => h, fun b xs h => by
  obtain ⟨w, hw, hk⟩ := (r.there hm ha).stands
  rcases h with (h | ⟨ob, h⟩) | h
  · refine .inl (.inl ?_)
    rw [upd_ne (ne_of h hw (fun z => (hk xs).1 z.symm))]; exact h
  · refine .inl (.inr ⟨ob, ?_⟩)
    rw [upd_ne (ne_of h hw (fun z => (hk xs).2 ob z.symm))]; exact h
  · exact .inr h, fun b o z h q => ⟨h, by
    rw [upd_ne]
    · exact q
    · rintro rfl
      exact h (List.mem_of_getElem? ha)⟩⟩
theorem RS.upd (r : RS K ι H S) {n : Nat} {a : Addr} {m m' : MO} {o : HO} (ha : ι[n]? = some a) (hm : S[n]? = some m) (hm' : RO K ι (L2.upd H a o) a m') : RS K ι (L2.upd H a o) (S.set n m') where
  len := by rw [List.length_set]; exact r.len
  nd := r.nd
  obj := fun k u e => by
    by_cases hk : k = n
    · subst hk
      have hl := (List.getElem?_eq_some_iff.mp hm).1
      rw [List.getElem?_set_self hl] at e
      cases e
      exact ⟨a, ha, hm'⟩
    · rw [List.getElem?_set_ne (Ne.symm hk)] at e
      obtain ⟨b, h1, h2⟩ := r.obj k u e
      refine ⟨b, h1, h2.fut (fut_upd r ha hm) (upd_ne ?_)⟩
      rintro rfl
      exact hk (r.inj h1 ha)
  tab := fun P hP => by
    obtain ⟨ps, e, t⟩ := r.tab P hP
    obtain ⟨w, hw, _, hk⟩ := (r.there hm ha).stands'
    exact ⟨ps, by rw [upd_ne (ne_of e hw (fun z => hk ps z.symm))]; exact e, t⟩
  si := Tabs.mono r.si (fut_upd r ha hm)
end

/-! ### plain readings, lifted -/
def tE (K : PySem.W.Frag) (f : WE) : TE := fun σ H Q => ∃ (ι : List Addr) (fr : Fr) (S : Sto) (Qp : Post), RF K ι H fr σ ∧ RS K ι H S ∧ f fr S Qp ∧
  ∀ (ι' : List Addr) (H' : Hp) (S' : Sto) (p : PV) (v : V), Fut K ι H ι' H' → RS K ι' H' S' → RV K ι' H' p v → Qp p S' → Q v H'
def tT (K : PySem.W.Frag) (f : WT) : TT := fun σ H Q => ∃ (ι : List Addr) (fr : Fr) (S : Sto) (Qp : Bool → Sto → Prop), RF K ι H fr σ ∧ RS K ι H S ∧ f fr S Qp ∧
  ∀ (ι' : List Addr) (H' : Hp) (S' : Sto) (b : Bool), Fut K ι H ι' H' → RS K ι' H' S' → Qp b S' → Q b H'
def tA (K : PySem.W.Frag) (f : WA) : TA := fun σ H Q => ∃ (ι : List Addr) (fr : Fr) (S : Sto) (Qp : List PV → Sto → Prop), RF K ι H fr σ ∧ RS K ι H S ∧ f fr S Qp ∧
  ∀ (ι' : List Addr) (H' : Hp) (S' : Sto) (ps : List PV) (vs : List V), Fut K ι H ι' H' → RS K ι' H' S' → RVs K ι' H' ps vs → Qp ps S' → Q vs H'
structure LD (K : PySem.W.Frag) (ι : List Addr) (H : Hp) (P : PD) (D : Ends) : Prop where
  nx : ∀ (ι' : List Addr) (H' : Hp) (S' : Sto) (fr' : Fr) (σ' : L2.St), Fut K ι H ι' H' → RS K ι' H' S' → RF K ι' H' fr' σ' → P.nx fr' S' → D.nx σ' H'
  rt : ∀ (ι' : List Addr) (H' : Hp) (S' : Sto) (p : PV) (v : V), Fut K ι H ι' H' → RS K ι' H' S' → RV K ι' H' p v → P.rt p S' → D.rt v H'
  bk : ∀ (ι' : List Addr) (H' : Hp) (S' : Sto) (fr' : Fr) (σ' : L2.St), Fut K ι H ι' H' → RS K ι' H' S' → RF K ι' H' fr' σ' → P.bk fr' S' → D.bk σ' H'
  ct : ∀ (ι' : List Addr) (H' : Hp) (S' : Sto) (fr' : Fr) (σ' : L2.St), Fut K ι H ι' H' → RS K ι' H' S' → RF K ι' H' fr' σ' → P.ct fr' S' → D.ct σ' H'
theorem LD.fut {K : PySem.W.Frag} {ι ι1 : List Addr} {H H1 : Hp} {P : PD} {D : Ends} (l : LD K ι H P D) (f : Fut K ι H ι1 H1) : LD K ι1 H1 P D :=
  ⟨fun ι' H' S' fr' σ' g => l.nx ι' H' S' fr' σ' (f.trans g), fun ι' H' S' p v g => l.rt ι' H' S' p v (f.trans g), fun ι' H' S' fr' σ' g => l.bk ι' H' S' fr' σ' (f.trans g), fun ι' H' S' fr' σ' g => l.ct ι' H' S' fr' σ' (f.trans g)⟩
def tS (K : PySem.W.Frag) (f : WS) : TS := fun D σ H => ∃ (ι : List Addr) (fr : Fr) (S : Sto) (P : PD), RF K ι H fr σ ∧ RS K ι H S ∧ f P fr S ∧ LD K ι H P D

structure JE (X : Cx) (e : Expr) (f : WE) : Prop where
  pe : PE X e (tE X.K f)
structure JT (X : Cx) (e : Expr) (f : WT) : Prop where
  pt : PT X e (tT X.K f)
structure JW (X : Cx) (e : Expr) (f : WT) : Prop where
  pw : PW X e (tT X.K f)
structure JA (X : Cx) (es : List Expr) (f : WA) : Prop where
  pa : PA X es (tA X.K f)
structure JS (X : Cx) (st : Stmt) (f : WS) : Prop where
  ps : PS X st (tS X.K f)
structure JSs (X : Cx) (st : List Stmt) (f : WS) : Prop where
  pss : PSs X st (tS X.K f)
theorem JW.jt {X : Cx} {e : Expr} {f : WT} (h : JW X e f) : JT X e f := ⟨h.pw.pt⟩

theorem pe_imp {X : Cx} {e : Expr} {t t' : TE} (h : PE X e t) (i : ∀ σ H Q, t' σ H Q → t σ H Q) : PE X e t' := fun pins s σ H Q I q => h pins s σ H Q I (i σ H Q q)
theorem pt_imp {X : Cx} {e : Expr} {t t' : TT} (h : PT X e t) (i : ∀ σ H Q, t' σ H Q → t σ H Q) : PT X e t' := fun pins s σ H Q I q => h pins s σ H Q I (i σ H Q q)
theorem pw_imp {X : Cx} {e : Expr} {t t' : TT} (h : PW X e t) (i : ∀ σ H Q, t' σ H Q → t σ H Q) : PW X e t' := fun wh pins s σ H Q I q => h wh pins s σ H Q I (i σ H Q q)
theorem pa_imp {X : Cx} {e : List Expr} {t t' : TA} (h : PA X e t) (i : ∀ σ H Q, t' σ H Q → t σ H Q) : PA X e t' := fun pos pins s σ H Q I q => h pos pins s σ H Q I (i σ H Q q)
theorem ps_imp {X : Cx} {e : Stmt} {t t' : TS} (h : PS X e t) (i : ∀ D σ H, t' D σ H → t D σ H) : PS X e t' := fun pins s σ H D I q => h pins s σ H D I (i D σ H q)
theorem pss_imp {X : Cx} {e : List Stmt} {t t' : TS} (h : PSs X e t) (i : ∀ D σ H, t' D σ H → t D σ H) : PSs X e t' := fun pins s σ H D I q => h pins s σ H D I (i D σ H q)

/-! ### names and constants -/
def wVar (i : Nat) : WE := fun fr S Q => ∃ p, fr[i]? = some (some p) ∧ Q p S
def wC (p : PV) : WE := fun _ S Q => Q p S
section
variable {X : Cx} {pos : Pos}
theorem jv (i : Nat) {x : Str} (hN : X.N[i]? = some x := by rfl) (hv : Vis X.env.scope x := by first | exact Or.inl rfl | exact Or.inr (Or.inl rfl) | exact Or.inr (Or.inr rfl)) (hd : (x == ("__debug__" : Str)) = false := by decide)
    (hcd : (x == ("__classdict__" : Str)) = false := by decide) : JE X (.Name x pos) (wVar i) := ⟨pe_imp (pe_var hN hv hd hcd) fun σ H Q ⟨ι, fr, S, Qp, hF, hS, ⟨p, e, q⟩, k⟩ => by
  obtain ⟨v, h1, h2⟩ := hF.at_ i p e
  exact ⟨v, h1, k ι H S p v .refl hS h2 q⟩⟩
theorem jc {e : Expr} {p : PV} {v : V} (h : PE X e (tC v)) (r : ∀ K ι H, RV K ι H p v) : JE X e (wC p) := ⟨pe_imp h fun σ H Q ⟨ι, fr, S, Qp, hF, hS, q, k⟩ => k ι H S p v .refl hS (r _ _ _) q⟩
theorem j_int {i j} : JE X (.Constant (.int i) j pos) (wC (.int i)) := jc pe_int fun _ _ _ => .int i
theorem j_bl {b j} : JE X (.Constant (.bool b) j pos) (wC (.bl b)) := jc pe_bl fun _ _ _ => .bl b
theorem j_non {j} : JE X (.Constant .none j pos) (wC .non) := jc pe_non fun _ _ _ => .non
theorem j_str {x j} : JE X (.Constant (.str x) j pos) (wC (.str x)) := jc pe_str fun _ _ _ => .str x
end

/-! ### operations -/
abbrev P2 := PV → PV → Sto → Post → Prop
def wOp (r : P2) (fa fb : WE) : WE := fun fr S Q => fa fr S fun x S1 => fb fr S1 fun y S2 => r x y S2 Q
/-- a plain operation is kept by one on values -/
def Kp2 (K : PySem.W.Frag) (r : P2) (q : R2) : Prop := ∀ (ι : List Addr) (H : Hp) (S : Sto) (x y : PV) (v w : V) (Qp : Post) (Q : VK), RS K ι H S → RV K ι H x v → RV K ι H y w → r x y S Qp →
  (∀ ι' H' S' p v, Fut K ι H ι' H' → RS K ι' H' S' → RV K ι' H' p v → Qp p S' → Q v H') → q v w H Q
theorem tOp_of {K : PySem.W.Frag} {r : P2} {q : R2} {fa fb : WE} (h : Kp2 K r q) : ∀ σ H Q, tE K (wOp r fa fb) σ H Q → tOp q (tE K fa) (tE K fb) σ H Q :=
  fun σ H Q ⟨ι, fr, S, Qp, hF, hS, hf, k⟩ => ⟨ι, fr, S, _, hF, hS, hf, fun ι1 H1 S1 x v f1 s1 r1 g => ⟨ι1, fr, S1, _, hF.fut f1, s1, g, fun ι2 H2 S2 y w f2 s2 r2 g2 =>
    h ι2 H2 S2 x y v w Qp Q s2 (r1.fut f2) r2 g2 fun ι' H' S' p u f3 => k ι' H' S' p u ((f1.trans f2).trans f3)⟩⟩
/-- two rules for one operation -/
theorem OpR.or {X : Cx} {f : Value → Value → Sem Value} {r q : R2} (h1 : OpR X f r) (h2 : OpR X f q) : OpR X f (fun x y H Q => r x y H Q ∨ q x y H Q) := fun pins s σ H x y v u Q I rx ry h => by
  rcases h with h | h
  · exact h1 pins s σ H x y v u Q I rx ry h
  · exact h2 pins s σ H x y v u Q I rx ry h
/-- a binary operation that is kept: the rule, and how the plain one goes to it -/
structure O2 (X : Cx) (f : Value → Value → Sem Value) (r : P2) : Prop where
  ex : ∃ q : R2, OpR X f q ∧ Kp2 X.K r q
theorem O2.or {X : Cx} {f : Value → Value → Sem Value} {r r' : P2} (h1 : O2 X f r) (h2 : O2 X f r') : O2 X f (fun x y S Q => r x y S Q ∨ r' x y S Q) := by
  obtain ⟨q, a, b⟩ := h1.ex
  obtain ⟨q', a', b'⟩ := h2.ex
  exact ⟨_, OpR.or a a', fun ι H S x y v w Qp Q s rx ry h k => by
    rcases h with h | h
    · exact .inl (b ι H S x y v w Qp Q s rx ry h k)
    · exact .inr (b' ι H S x y v w Qp Q s rx ry h k)⟩
theorem O2.imp {X : Cx} {f : Value → Value → Sem Value} {r r' : P2} (h : O2 X f r) (i : ∀ x y S Q, r' x y S Q → r x y S Q) : O2 X f r' := by
  obtain ⟨q, a, b⟩ := h.ex
  exact ⟨q, a, fun ι H S x y v w Qp Q s rx ry z k => b ι H S x y v w Qp Q s rx ry (i _ _ _ _ z) k⟩
section
variable {X : Cx} {a b : Expr} {fa fb : WE} {pos : Pos}
theorem j_op {op : Operator} {r : P2} (ho : O2 X (binaryOp op) r) (ha : JE X a fa) (hb : JE X b fb) : JE X (.BinOp a op b pos) (wOp r fa fb) := by
  obtain ⟨q, h1, h2⟩ := ho.ex
  exact ⟨pe_imp (pe_op h1 ha.pe hb.pe) (tOp_of h2)⟩
theorem j_cmp {op : CmpOp} {r : P2} (ho : O2 X (compareOp op) r) (ha : JE X a fa) (hb : JE X b fb) (hm : behindInMarks op b = false) : JE X (.Compare a [op] [b] pos) (wOp r fa fb) := by
  obtain ⟨q, h1, h2⟩ := ho.ex
  exact ⟨pe_imp (pe_cmpR h1 ha.pe hb.pe hm) (tOp_of h2)⟩
theorem tTest_of {K : PySem.W.Frag} {f : WE} : ∀ σ H Q, tT K (fun fr S Q => f fr S fun x S1 => ∃ k, x = .bl k ∧ Q k S1) σ H Q → tTest (tE K f) σ H Q :=
  fun σ H Q ⟨ι, fr, S, Qp, hF, hS, hf, k⟩ => ⟨ι, fr, S, _, hF, hS, hf, fun ι1 H1 S1 x v f1 s1 r1 ⟨b, e, g⟩ => by
    subst e
    cases r1
    exact ⟨b, rfl, k ι1 H1 S1 b f1 s1 g⟩⟩
/-- a value that is True or False, as a test -/
def wB (f : WE) : WT := fun fr S Q => f fr S fun x S1 => ∃ k, x = .bl k ∧ Q k S1
theorem tTest_imp {t t' : TE} (i : ∀ σ H Q, t' σ H Q → t σ H Q) : ∀ σ H Q, tTest t' σ H Q → tTest t σ H Q := fun σ H Q h => i σ H _ h
theorem jt_cmp {op : CmpOp} {r : P2} (ho : O2 X (compareOp op) r) (ha : JE X a fa) (hb : JE X b fb) (hm : behindInMarks op b = false) : JT X (.Compare a [op] [b] pos) (wB (wOp r fa fb)) := by
  obtain ⟨q, h1, h2⟩ := ho.ex
  exact ⟨pt_imp (pt_cmpR h1 ha.pe hb.pe hm) fun σ H Q h => tTest_imp (tOp_of h2) σ H Q (tTest_of σ H Q h)⟩
end
end M

namespace M
open PySem PySem.Spec PyProof.Rows L2
variable [Tabs]

/-- a list of the store, as it is read -/
def SL (S : Sto) (n : Nat) (xs : List PV) : Prop := S[n]? = some (.lst xs) ∨ S[n]? = some (.ro xs)
theorem RS.sl {K : PySem.W.Frag} {ι : List Addr} {H : Hp} {S : Sto} {n : Nat} {a : Addr} {xs : List PV} (r : RS K ι H S) (ha : ι[n]? = some a) (h : SL S n xs) : ∃ vs, SqL K H a vs ∧ RVs K ι H xs vs := by
  rcases h with h | h
  · obtain ⟨vs, h1, h2⟩ := r.there h ha
    exact ⟨vs, .of h1, h2⟩
  · obtain ⟨vs, ⟨o, h1⟩, h2⟩ := r.there h ha
    exact ⟨vs, .inl (.inr ⟨o, h1⟩), h2⟩
theorem RS.ls {K : PySem.W.Frag} {ι : List Addr} {H : Hp} {S : Sto} {n : Nat} {a : Addr} {xs : List PV} (r : RS K ι H S) (ha : ι[n]? = some a) (h : S[n]? = some (.lst xs)) : ∃ vs, H a = some (.lst vs) ∧ RVs K ι H xs vs := r.there h ha

/-! ### ints -/
def pI (C : Int → Int → Prop) (g : Int → Int → PV) : P2 := fun x y S Q => ∃ i j, x = .int i ∧ y = .int j ∧ C i j ∧ Q (g i j) S
def pI0 (g : Int → Int → PV) : P2 := fun x y S Q => ∃ i j, x = .int i ∧ y = .int j ∧ Q (g i j) S
section
variable {X : Cx} {f : Value → Value → Sem Value}
theorem o_I {C : Int → Int → Prop} {g : Int → Int → PV} {g' : Int → Int → V} (h : OpR X f (rI C g')) (r : ∀ i j K ι H, RV K ι H (g i j) (g' i j)) : O2 X f (pI C g) := ⟨_, h, fun ι H S x y v w Qp Q s rx ry h k => by
  obtain ⟨i, j, rfl, rfl, c, q⟩ := h
  cases rx; cases ry
  exact ⟨i, j, rfl, rfl, c, k ι H S _ _ .refl s (r i j _ _ _) q⟩⟩
theorem o_I0 {g : Int → Int → PV} {g' : Int → Int → V} (h : OpR X f (rI0 g')) (r : ∀ i j K ι H, RV K ι H (g i j) (g' i j)) : O2 X f (pI0 g) := ⟨_, h, fun ι H S x y v w Qp Q s rx ry h k => by
  obtain ⟨i, j, rfl, rfl, q⟩ := h
  cases rx; cases ry
  exact ⟨i, j, rfl, rfl, k ι H S _ _ .refl s (r i j _ _ _) q⟩⟩
end
/-- two ints, by their numbers -/
def onI (g : Int → Int → Sto → Post → Prop) : P2
  | .int i, .int j, S, Q => g i j S Q
  | _, _, _, _ => False
theorem onI_pI {C : Int → Int → Prop} {g : Int → Int → PV} : ∀ x y S Q, onI (fun i j S Q => C i j ∧ Q (g i j) S) x y S Q → pI C g x y S Q := by
  intro x y S Q h
  cases x <;> cases y <;> first | exact h.elim | exact ⟨_, _, rfl, rfl, h.1, h.2⟩
theorem onI_pI0 {g : Int → Int → PV} : ∀ x y S Q, onI (fun i j S Q => Q (g i j) S) x y S Q → pI0 g x y S Q := by
  intro x y S Q h
  cases x <;> cases y <;> first | exact h.elim | exact ⟨_, _, rfl, rfl, h⟩

def bSub : P2 := onI fun i j S Q => Q (.int (i - j)) S
def bMul : P2 := onI fun i j S Q => CMul i j ∧ Q (.int (i * j)) S
def bFdiv : P2 := onI fun i j S Q => CDiv i j ∧ Q (.int (i / j)) S
def bMod : P2 := onI fun i j S Q => 0 < j ∧ Q (.int (i % j)) S
def bPow : P2 := onI fun i j S Q => CPow i j ∧ Q (.int (i ^ j.toNat)) S
def bShl : P2 := onI fun i j S Q => CPow i j ∧ Q (.int (i * 2 ^ j.toNat)) S
def bShr : P2 := onI fun i j S Q => 0 ≤ j ∧ Q (.int (i / 2 ^ j.toNat)) S
def bAnd : P2 := onI fun i j S Q => Q (.int (Builtin.bitAnd i j)) S
section
variable {X : Cx}
theorem o_sub : O2 X (binaryOp .Sub) bSub := (o_I0 op_sub fun _ _ _ _ _ => .int _).imp onI_pI0
theorem o_mul : O2 X (binaryOp .Mult) bMul := (o_I op_mul fun _ _ _ _ _ => .int _).imp onI_pI
theorem o_fdiv : O2 X (binaryOp .FloorDiv) bFdiv := (o_I op_fdiv fun _ _ _ _ _ => .int _).imp onI_pI
theorem o_mod : O2 X (binaryOp .Mod) bMod := (o_I op_mod fun _ _ _ _ _ => .int _).imp onI_pI
theorem o_pow : O2 X (binaryOp .Pow) bPow := (o_I op_pow fun _ _ _ _ _ => .int _).imp onI_pI
theorem o_shl : O2 X (binaryOp .LShift) bShl := (o_I op_shl fun _ _ _ _ _ => .int _).imp onI_pI
theorem o_shr : O2 X (binaryOp .RShift) bShr := (o_I op_shr fun _ _ _ _ _ => .int _).imp onI_pI
theorem o_and : O2 X (binaryOp .BitAnd) bAnd := (o_I0 op_and fun _ _ _ _ _ => .int _).imp onI_pI0
end

/-! ### + -/
/-- t + u of tuples, any -/
def rCatA (K : PySem.W.Frag) : R2 := fun x y H Q => ∃ a b xs ys, x = .ref a ∧ y = .ref b ∧ SqT K H a xs ∧ SqT K H b ys ∧ xs.length + ys.length ≤ sizeLine ∧
  (xs = [] → Q (.ref b) H) ∧ (ys = [] → Q (.ref a) H) ∧ (∀ p, H p = none → Q (.ref p) (upd H p (.tup (xs ++ ys))))
theorem op_catA {X : Cx} : OpR X (binaryOp .Add) (rCatA X.K) := by
  intro pins s σ H x y v u Q I rx ry h
  obtain ⟨a, b, xs, ys, rfl, rfl, ha, hb, hz, q0, q1, q2⟩ := h
  by_cases hx : xs = []
  · cases rx
    cases ry
    obtain ⟨its, r1, p1, _⟩ := I.tuple ha
    obtain ⟨its2, r2, p2, _⟩ := I.tuple hb
    have e : its = [] := r1.nil_iff.mpr hx
    obtain ⟨⟨cls, dd, data, sl⟩, ho, hc, n, hd⟩ := id p1
    obtain ⟨⟨cls2, dd2, data2, sl2⟩, ho2, hc2, n2, hd2⟩ := id p2
    simp only at hc hd hc2 hd2
    subst hc hd hc2 hd2
    exact concat_meets ⟨_, ho, rfl⟩ ⟨_, ho2, rfl⟩ noFill_tuple_add seq_tuple_add PySem.F.slot_tuple_add PySem.F.entry_tuple_add (PySem.F.args_tuple_add_2 _ _)
      (tuple_addW0 a b its.toArray its2.toArray n n2 dd dd2 sl sl2 (by simp [e])) ⟨ho, ho2, ⟨.ref b, H, I, rfl, q0 hx⟩⟩
  · exact op_catT pins s σ H (.ref a) (.ref b) v u Q I rx ry ⟨a, b, xs, ys, rfl, rfl, ha, hb, hx, hz, q1, fun _ => q2⟩
def bAdd : P2
  | .int i, .int j, S, Q => Q (.int (i + j)) S
  | .str a, .str b, S, Q => a.length + b.length ≤ sizeLine ∧ Q (.str (a ++ b)) S
  | .tup xs, .tup ys, S, Q => xs.length + ys.length ≤ sizeLine ∧ Q (.tup (xs ++ ys)) S
  | .ref m, .ref n, S, Q => ∃ xs ys, S[m]? = some (.lst xs) ∧ S[n]? = some (.lst ys) ∧ xs.length + ys.length ≤ sizeLine ∧ Q (.ref S.length) (S ++ [.lst (xs ++ ys)])
  | _, _, _, _ => False
theorem RS.last {K : PySem.W.Frag} {ι : List Addr} {H : Hp} {S : Sto} (r : RS K ι H S) (a : Addr) : (ι ++ [a])[S.length]? = some a := by
  rw [← r.len, List.getElem?_append_right (Nat.le_refl _)]; simp
/-- a new list -/
theorem new_list {K : PySem.W.Frag} {ι : List Addr} {H : Hp} {S : Sto} {xs : List PV} {vs : List V} {Qp : Post} {Q : VK} (s : RS K ι H S) (r : RVs K ι H xs vs)
    (k : ∀ ι' H' S' p v, Fut K ι H ι' H' → RS K ι' H' S' → RV K ι' H' p v → Qp p S' → Q v H') (q : Qp (.ref S.length) (S ++ [.lst xs])) : ∀ p, H p = none → Q (.ref p) (upd H p (.lst vs)) := fun p hp =>
  k (ι ++ [p]) _ (S ++ [.lst xs]) (.ref S.length) _ (fut_lay hp) (s.lay (m := .lst xs) hp ⟨vs, upd_same, r.fut (fut_lay hp)⟩) (.ref (s.last p)) q
/-- a new tuple -/
theorem new_tup {K : PySem.W.Frag} {ι : List Addr} {H : Hp} {S : Sto} {xs : List PV} {vs : List V} {Qp : Post} {Q : VK} (s : RS K ι H S) (r : RVs K ι H xs vs)
    (k : ∀ ι' H' S' p v, Fut K ι H ι' H' → RS K ι' H' S' → RV K ι' H' p v → Qp p S' → Q v H') (q : Qp (.tup xs) S) : ∀ p, H p = none → Q (.ref p) (upd H p (.tup vs)) := fun p hp =>
  k ι _ S (.tup xs) _ (fut_new hp) (s.new hp) (.tup (.of upd_same) (r.fut (fut_new hp))) q
theorem o_add {X : Cx} : O2 X (binaryOp .Add) bAdd := by
  refine ⟨_, OpR.or op_add (OpR.or op_add_str (OpR.or op_catA op_cat)), fun ι H S x y v w Qp Q s rx ry h k => ?_⟩
  cases x <;> cases y <;> first | exact h.elim | skip
  · cases rx; cases ry
    exact .inl ⟨_, _, rfl, rfl, k ι H S _ _ .refl s (.int _) h⟩
  · cases rx; cases ry
    exact .inr (.inl ⟨_, _, rfl, rfl, h.1, k ι H S _ _ .refl s (.str _) h.2⟩)
  · cases rx with
    | tup ha ra =>
      cases ry with
      | tup hb rb =>
        refine .inr (.inr (.inl ⟨_, _, _, _, rfl, rfl, ha, hb, by rw [← ra.length, ← rb.length]; exact h.1, fun e => ?_, fun e => ?_, new_tup s (ra.append rb) k h.2⟩))
        · subst e
          cases ra
          exact k ι H S _ _ .refl s (.tup hb rb) h.2
        · subst e
          cases rb
          refine k ι H S _ _ .refl s (.tup ha ra) ?_
          have := h.2
          rwa [List.append_nil] at this
  · cases rx with
    | ref ha =>
      cases ry with
      | ref hb =>
        obtain ⟨xs, ys, h1, h2, hz, q⟩ := h
        obtain ⟨vs, e1, r1⟩ := s.ls ha h1
        obtain ⟨ws, e2, r2⟩ := s.ls hb h2
        exact .inr (.inr (.inr ⟨_, _, vs, ws, rfl, rfl, e1, e2, by rw [← r1.length, ← r2.length]; exact hz, new_list s (r1.append r2) k q⟩))
end M

namespace M
open PySem PySem.Spec PyProof.Rows L2
variable [Tabs]

/-! ### what is written out of a plain value -/
mutual
inductive PDt (S : Sto) : PV → PyData → Prop
  | non : PDt S .non .none
  | bl (b : Bool) : PDt S (.bl b) (.bool b)
  | int (i : Int) : PDt S (.int i) (.int i)
  | str (x : Str) : PDt S (.str x) (.str x)
  | tup {xs : List PV} {ds : List PyData} : PDts S xs ds → PDt S (.tup xs) (.tuple ds)
  | lst {n : Nat} {xs : List PV} {ds : List PyData} : SL S n xs → PDts S xs ds → PDt S (.ref n) (.list ds)
inductive PDts (S : Sto) : List PV → List PyData → Prop
  | nil : PDts S [] []
  | cons {p : PV} {ps : List PV} {d : PyData} {ds : List PyData} : PDt S p d → PDts S ps ds → PDts S (p :: ps) (d :: ds)
end
section
variable {K : PySem.W.Frag} {ι : List Addr} {H : Hp} {S : Sto}
mutual
theorem PDt.dp (r : RS K ι H S) : ∀ {p : PV} {d : PyData} {v : V}, PDt S p d → RV K ι H p v → Dp K H v d
  | _, _, _, .non, .non => .non
  | _, _, _, .bl b, .bl _ => .bl b
  | _, _, _, .int i, .int _ => .int i
  | _, _, _, .str x, .str _ => .str x
  | _, _, _, .tup h, .tup hs rs => .tup hs (PDts.dp r h rs)
  | _, _, _, .lst hl h, .ref ha => by
    obtain ⟨vs, h1, h2⟩ := r.sl ha hl
    exact .lst h1 (PDts.dp r h h2)
theorem PDts.dp (r : RS K ι H S) : ∀ {ps : List PV} {ds : List PyData} {vs : List V}, PDts S ps ds → RVs K ι H ps vs → DpAll K H vs ds
  | _, _, _, .nil, .nil => .nil
  | _, _, _, .cons h t, .cons r1 r2 => .cons (PDt.dp r h r1) (PDts.dp r t r2)
end
end

/-! ### == and != -/
def bEqD (neg : Bool) : P2 := fun x y S Q => ∃ d e, PDt S x d ∧ PDt S y e ∧ SeqAt.shaped d = true ∧ SeqAt.shaped e = true ∧ Q (.bl (if neg then !PyData.eqv d e else PyData.eqv d e)) S
def bEq (neg : Bool) : P2
  | .int i, .int j, S, Q => Q (.bl (decide (i = j) ^^ neg)) S
  | .str a, .str b, S, Q => Q (.bl (decide (a = b) ^^ neg)) S
  | .bl a, .bl b, S, Q => Q (.bl (decide (a = b) ^^ neg)) S
  | x, y, S, Q => bEqD neg x y S Q
theorem dec_int (i j : Int) : decide (V.int i = V.int j) = decide (i = j) := by
  by_cases h : i = j
  · subst h; simp
  · rw [decide_eq_false h, decide_eq_false]; intro z; exact h (V.int.inj z)
theorem dec_str (i j : Str) : decide (V.str i = V.str j) = decide (i = j) := by
  by_cases h : i = j
  · subst h; simp
  · rw [decide_eq_false h, decide_eq_false]; intro z; exact h (V.str.inj z)
theorem dec_bl (i j : Bool) : decide (V.bl i = V.bl j) = decide (i = j) := by cases i <;> cases j <;> rfl
theorem Kp_eqD {K : PySem.W.Frag} : Kp2 K (bEqD false) (rEqD K) := fun ι H S x y v w Qp Q s rx ry ⟨d, e, h1, h2, s1, s2, q⟩ k =>
  ⟨d, e, h1.dp s rx, h2.dp s ry, s1, s2, k ι H S _ _ .refl s (.bl _) q⟩
theorem Kp_neD {K : PySem.W.Frag} : Kp2 K (bEqD true) (rNeD K) := fun ι H S x y v w Qp Q s rx ry ⟨d, e, h1, h2, s1, s2, q⟩ k =>
  ⟨d, e, h1.dp s rx, h2.dp s ry, s1, s2, k ι H S _ _ .refl s (.bl _) q⟩
theorem o_eq {X : Cx} (hu : X.A.units + 64 < cLine) : O2 X (compareOp .Eq) (bEq false) := by
  refine ⟨_, OpR.or op_eq (op_eqD hu), fun ι H S x y v w Qp Q s rx ry h k => ?_⟩
  cases x <;> cases y <;> first
    | exact .inr (Kp_eqD ι H S _ _ v w Qp Q s rx ry h k)
    | (cases rx; cases ry
       refine .inl ⟨rfl, ?_⟩
       first | rw [dec_int] | rw [dec_str] | rw [dec_bl]
       refine k ι H S _ _ .refl s (.bl _) ?_
       have q : Qp (.bl (_ ^^ false)) S := h
       rwa [Bool.xor_false] at q)
theorem o_ne {X : Cx} (hu : X.A.units + 64 < cLine) : O2 X (compareOp .NotEq) (bEq true) := by
  refine ⟨_, OpR.or op_ne (op_neD hu), fun ι H S x y v w Qp Q s rx ry h k => ?_⟩
  cases x <;> cases y <;> first
    | exact .inr (Kp_neD ι H S _ _ v w Qp Q s rx ry h k)
    | (cases rx; cases ry
       refine .inl ⟨rfl, ?_⟩
       first | rw [dec_int] | rw [dec_str] | rw [dec_bl]
       refine k ι H S _ _ .refl s (.bl _) ?_
       have q : Qp (.bl (_ ^^ true)) S := h
       rwa [Bool.xor_true] at q)

/-! ### < and the like -/
def bLt : P2
  | .int i, .int j, S, Q => Q (.bl (decide (i < j))) S
  | .tup xs, .tup ys, S, Q => ∃ ns ms, xs = ns.map PV.int ∧ ys = ms.map PV.int ∧ Q (.bl (HT.lexLt ns ms)) S
  | .str a, .str b, S, Q => Q (.bl (decide (a.cps.toList < b.cps.toList))) S
  | _, _, _, _ => False
theorem RVs.ints_of {K : PySem.W.Frag} {ι : List Addr} {H : Hp} : ∀ {ns : List Int} {vs : List V}, RVs K ι H (ns.map PV.int) vs → vs = ns.map V.int
  | [], _, r => by cases r; rfl
  | n :: ns, _, r => by
    rw [List.map_cons] at r
    cases r with
    | cons r t => cases r; rw [RVs.ints_of t]; rfl
theorem o_lt {X : Cx} (hu : X.A.units < cLine) : O2 X (compareOp .Lt) bLt := by
  refine ⟨_, OpR.or op_lt (OpR.or (op_ltT hu) op_lt_str), fun ι H S x y v w Qp Q s rx ry h k => ?_⟩
  cases x <;> cases y <;> first | exact h.elim | skip
  · cases rx; cases ry
    exact .inl ⟨_, _, rfl, rfl, k ι H S _ _ .refl s (.bl _) h⟩
  · cases rx; cases ry
    exact .inr (.inr ⟨_, _, rfl, rfl, k ι H S _ _ .refl s (.bl _) h⟩)
  · obtain ⟨ns, ms, rfl, rfl, q⟩ := h
    cases rx with
    | tup ha ra =>
      cases ry with
      | tup hb rb =>
        rw [ra.ints_of] at ha
        rw [rb.ints_of] at hb
        exact .inr (.inl ⟨_, _, ns, ms, rfl, rfl, ha, hb, k ι H S _ _ .refl s (.bl _) q⟩)
def bGt : P2 := onI fun i j S Q => Q (.bl (decide (j < i))) S
def bGe : P2 := onI fun i j S Q => Q (.bl (decide (j ≤ i))) S
section
variable {X : Cx}
theorem o_gt : O2 X (compareOp .Gt) bGt := (o_I0 op_gt fun _ _ _ _ _ => .bl _).imp onI_pI0
theorem o_ge : O2 X (compareOp .GtE) bGe := (o_I0 op_ge fun _ _ _ _ _ => .bl _).imp onI_pI0
end

/-! ### is -/
/-! ### in, over flat things -/
def flatP : PV → Bool
  | .non => true
  | .bl _ => true
  | .int _ => true
  | .str _ => true
  | _ => false
def eqP : PV → PV → Bool
  | .non, .non => true
  | .bl a, .bl b => a == b
  | .bl a, .int b => (if a then 1 else 0) == b
  | .int a, .bl b => a == (if b then 1 else 0)
  | .int a, .int b => a == b
  | .str a, .str b => a == b
  | _, _ => false
def inP (x : PV) (xs : List PV) : Bool := xs.any fun y => eqP y x
/-- the items of a tuple, or of a list of the store -/
def Sq (S : Sto) : PV → List PV → Prop
  | .tup ys, xs => ys = xs
  | .ref n, xs => SL S n xs
  | .kls ys, xs => ys = xs
  | _, _ => False
section
variable {K : PySem.W.Frag} {ι : List Addr} {H : Hp} {S : Sto}
theorem RV.flat {p : PV} {v : V} (r : RV K ι H p v) (h : flatP p = true) : flatV v = true := by
  cases r <;> first | rfl | exact absurd h Bool.false_ne_true
theorem RVs.flat : ∀ {ps : List PV} {vs : List V}, RVs K ι H ps vs → ps.all flatP = true → vs.all flatV = true
  | _, _, .nil, _ => rfl
  | _, _, .cons r t, h => by
    rw [List.all_cons, Bool.and_eq_true] at h ⊢
    exact ⟨r.flat h.1, RVs.flat t h.2⟩
theorem RV.eqP {p q : PV} {v w : V} (r : RV K ι H p v) (t : RV K ι H q w) (hp : flatP p = true) (hq : flatP q = true) : eqV v w = M.eqP p q := by
  cases r <;> cases t <;> first | rfl | exact absurd hp Bool.false_ne_true | exact absurd hq Bool.false_ne_true
theorem RVs.inP {q : PV} {w : V} (t : RV K ι H q w) (hq : flatP q = true) : ∀ {ps : List PV} {vs : List V}, RVs K ι H ps vs → ps.all flatP = true → inV w vs = M.inP q ps
  | _, _, .nil, _ => rfl
  | _, _, .cons r rs, h => by
    rw [List.all_cons, Bool.and_eq_true] at h
    show (eqV _ w || inV w _) = (M.eqP _ q || M.inP q _)
    rw [r.eqP t h.1 hq, RVs.inP t hq rs h.2]
theorem RS.sq (s : RS K ι H S) {p : PV} {v : V} {xs : List PV} (r : RV K ι H p v) (h : Sq S p xs) : ∃ a vs, v = .ref a ∧ (SqL K H a vs ∨ SqT K H a vs) ∧ RVs K ι H xs vs := by
  cases r with
  | tup ha ra =>
    have e : _ = xs := h
    subst e
    exact ⟨_, _, rfl, .inr ha, ra⟩
  | ref ha =>
    obtain ⟨vs, h1, h2⟩ := s.sl ha h
    exact ⟨_, vs, rfl, .inl h1, h2⟩
  | kls ha ra =>
    have e : _ = xs := h
    subst e
    exact ⟨_, _, rfl, .inl ha.sq, ra⟩
  | _ => exact h.elim
end
def bIn (neg : Bool) : P2 := fun x y S Q => ∃ ys, Sq S y ys ∧ flatP x = true ∧ ys.all flatP = true ∧ Q (.bl (if neg then !inP x ys else inP x ys)) S
theorem Kp_in {K : PySem.W.Frag} (neg : Bool) : Kp2 K (bIn neg) (rIn K neg) := fun ι H S x y v w Qp Q s rx ry ⟨ys, hy, fx, fy, q⟩ k => by
  obtain ⟨a, vs, rfl, hs, rs⟩ := s.sq ry hy
  refine ⟨a, vs, rfl, hs, rx.flat fx, rs.flat fy, ?_⟩
  rw [rs.inP rx fx fy]
  exact k ι H S _ _ .refl s (.bl _) q
theorem o_in {X : Cx} : O2 X (compareOp .In) (bIn false) := ⟨_, op_in_seq, Kp_in false⟩
theorem o_notin {X : Cx} : O2 X (compareOp .NotIn) (bIn true) := ⟨_, op_notIn_seq, Kp_in true⟩

/-! ### one-place operations -/
section
variable {X : Cx} {a : Expr} {fa : WE} {pos : Pos}
end

/-! ### truth -/
def Tru (S : Sto) : PV → Bool → Prop
  | .non, k => k = false
  | .bl b, k => k = b
  | .int i, k => k = (i != 0)
  | .str y, k => y.length ≤ sizeLine ∧ k = ((y.length : Int) != 0)
  | .tup xs, k => k = !xs.isEmpty
  | .ref n, k => (∃ xs, SL S n xs ∧ k = !xs.isEmpty) ∨ ∃ kvs, S[n]? = some (.dct kvs) ∧ k = !kvs.isEmpty
  | _, _ => False
def wTru (f : WE) : WT := fun fr S Q => f fr S fun x S1 => ∃ k, Tru S1 x k ∧ Q k S1
theorem RVs.isEmpty {K : PySem.W.Frag} {ι : List Addr} {H : Hp} {ps : List PV} {vs : List V} (r : RVs K ι H ps vs) : vs.isEmpty = ps.isEmpty := by cases r <;> rfl
theorem RKs.isEmpty {κ : Type} {K : PySem.W.Frag} {ι : List Addr} {H : Hp} {ps : List (κ × PV)} {vs : List (κ × V)} (r : RKs K ι H ps vs) : vs.isEmpty = ps.isEmpty := by cases r <;> rfl
theorem tru_of {K : PySem.W.Frag} {ι : List Addr} {H : Hp} {S : Sto} {p : PV} {v : V} {k : Bool} (s : RS K ι H S) (r : RV K ι H p v) (h : Tru S p k) : TruV K v H k := by
  cases r with
  | tup ha ra => exact .inr (.inl ⟨_, ha, by rw [ra.isEmpty]; exact h⟩)
  | ref ha =>
    rcases h with ⟨xs, hx, e⟩ | ⟨kvs, hx, e⟩
    · obtain ⟨vs, h1, h2⟩ := s.sl ha hx
      exact .inl ⟨vs, h1, by rw [h2.isEmpty]; exact e⟩
    · obtain ⟨ws, h1, h2⟩ := s.there hx ha
      exact .inr (.inr ⟨ws, h1, by rw [h2.isEmpty]; exact e⟩)
  | adr a => exact h.elim
  | kls ha ra => exact h.elim
  | ty n => exact h.elim
  | _ => exact h
section
variable {X : Cx} {a b c : Expr} {rest : List Expr} {fa fb fc : WE} {ga gb gc : WT} {pos : Pos}
theorem jt_tru (ha : JE X a fa) (he : ∀ whole, isTrue a X.env whole = (do let v ← whole; standAt a.pos; holding [v] (truthy v)) := by intro _; rfl) : JT X a (wTru fa) := ⟨pt_imp (pt_truth ha.pe he) fun σ H Q ⟨ι, fr, S, Qp, hF, hS, hf, k⟩ =>
  ⟨ι, fr, S, _, hF, hS, hf, fun ι1 H1 S1 x v f1 s1 r1 ⟨b, e, g⟩ => ⟨b, tru_of s1 r1 e, k ι1 H1 S1 b f1 s1 g⟩⟩⟩
def wAndT (g h : WT) : WT := fun fr S Q => g fr S fun b S1 => if b = true then h fr S1 Q else Q false S1
def wOrT (g h : WT) : WT := fun fr S Q => g fr S fun b S1 => if b = true then Q true S1 else h fr S1 Q
theorem jw_and1 (ha : JT X a ga) : JW X (.BoolOp .And [a] pos) ga := ⟨pw_and1 ha.pt⟩
theorem jw_or1 (ha : JT X a ga) : JW X (.BoolOp .Or [a] pos) ga := ⟨pw_or1 ha.pt⟩
theorem jw_and (ha : JT X a ga) (hb : JW X (.BoolOp .And (b :: rest) pos) gb) : JW X (.BoolOp .And (a :: b :: rest) pos) (wAndT ga gb) := ⟨pw_imp (pw_and ha.pt hb.pw) fun σ H Q ⟨ι, fr, S, Qp, hF, hS, hf, k⟩ =>
  ⟨ι, fr, S, _, hF, hS, hf, fun ι1 H1 S1 b f1 s1 g => by
    cases b with
    | true => exact iteT ⟨ι1, fr, S1, Qp, hF.fut f1, s1, by simpa using g, fun ι' H' S' b' f2 s2 q => k ι' H' S' b' (f1.trans f2) s2 q⟩
    | false => exact iteF (k ι1 H1 S1 false f1 s1 (by simpa using g))⟩⟩
theorem jw_or (ha : JT X a ga) (hb : JW X (.BoolOp .Or (b :: rest) pos) gb) : JW X (.BoolOp .Or (a :: b :: rest) pos) (wOrT ga gb) := ⟨pw_imp (pw_or ha.pt hb.pw) fun σ H Q ⟨ι, fr, S, Qp, hF, hS, hf, k⟩ =>
  ⟨ι, fr, S, _, hF, hS, hf, fun ι1 H1 S1 b f1 s1 g => by
    cases b with
    | false => exact iteF ⟨ι1, fr, S1, Qp, hF.fut f1, s1, by simpa using g, fun ι' H' S' b' f2 s2 q => k ι' H' S' b' (f1.trans f2) s2 q⟩
    | true => exact iteT (k ι1 H1 S1 true f1 s1 (by simpa using g))⟩⟩
def wNotV (f : WE) : WE := fun fr S Q => f fr S fun x S1 => ∃ c, x = .bl c ∧ Q (.bl (!c)) S1
theorem j_not (ha : JE X a fa) : JE X (.UnaryOp .Not a pos) (wNotV fa) := ⟨pe_imp (pe_not ha.pe) fun σ H Q ⟨ι, fr, S, Qp, hF, hS, hf, k⟩ =>
  ⟨ι, fr, S, _, hF, hS, hf, fun ι1 H1 S1 x v f1 s1 r1 ⟨c, e, g⟩ => by
    subst e
    cases r1
    exact ⟨c, rfl, k ι1 H1 S1 _ _ f1 s1 (.bl _) g⟩⟩⟩
def wIf (g : WT) (f h : WE) : WE := fun fr S Q => g fr S fun b S1 => if b = true then f fr S1 Q else h fr S1 Q
theorem j_if (hc : JT X c gc) (ha : JE X a fa) (hb : JE X b fb) : JE X (.IfExp c a b pos) (wIf gc fa fb) := ⟨pe_imp (pe_ifExp hc.pt ha.pe hb.pe) fun σ H Q ⟨ι, fr, S, Qp, hF, hS, hf, k⟩ =>
  ⟨ι, fr, S, _, hF, hS, hf, fun ι1 H1 S1 b f1 s1 g => by
    cases b with
    | true => exact iteT ⟨ι1, fr, S1, Qp, hF.fut f1, s1, by simpa using g, fun ι' H' S' p v f2 s2 r q => k ι' H' S' p v (f1.trans f2) s2 r q⟩
    | false => exact iteF ⟨ι1, fr, S1, Qp, hF.fut f1, s1, by simpa using g, fun ι' H' S' p v f2 s2 r q => k ι' H' S' p v (f1.trans f2) s2 r q⟩⟩⟩
end
end M

namespace M
open PySem PySem.Spec PyProof.Rows L2
/-- T1 tracks the tables that T0 tracks, and holds what T0 holds since its entry -/
class On (T1 T0 : Tabs) : Prop where
  t : T1.T = T0.T
  s : ∀ {K : PySem.W.Frag} {ι : List Addr} {H : Hp}, T1.since K ι H → T0.since K ι H
instance On.refl {T : Tabs} : On T T := ⟨rfl, fun h => h⟩
theorem On.trans {T2 T1 T0 : Tabs} (a : On T2 T1) (b : On T1 T0) : On T2 T0 := ⟨a.t.trans b.t, fun h => b.s (a.s h)⟩
section
variable {T0 T1 : Tabs} {K : PySem.W.Frag} {ι ι' : List Addr} {H H' : Hp} {S S' : Sto}
theorem RS.down (o : On T1 T0) (r : @RS T1 K ι H S) : @RS T0 K ι H S := @RS.mk T0 K ι H S r.len r.nd r.obj (fun P h => r.tab P (by rw [o.t]; exact h)) (o.s r.si)
theorem RS.up (o : On T1 T0) (r1 : @RS T1 K ι H S) (f : Fut K ι H ι' H') (r : @RS T0 K ι' H' S') : @RS T1 K ι' H' S' := @RS.mk T1 K ι' H' S' (@RS.len T0 _ _ _ _ r) (@RS.nd T0 _ _ _ _ r) (@RS.obj T0 _ _ _ _ r) (fun P h => @RS.tab T0 _ _ _ _ r P (by rw [← o.t]; exact h)) (T1.mono (@RS.si T1 _ _ _ _ r1) f)
end
variable {T0 : Tabs} [T1 : Tabs]

/-! ### argument lists, displays -/
def wNil : WA := fun _ S Q => Q [] S
def wCons (f : WE) (g : WA) : WA := fun fr S Q => f fr S fun x S1 => g fr S1 fun xs S2 => Q (x :: xs) S2
def wTup (g : WA) : WE := fun fr S Q => g fr S fun xs S1 => xs.length ≤ sizeLine ∧ Q (.tup xs) S1
def wLst (g : WA) : WE := fun fr S Q => g fr S fun xs S1 => xs.length ≤ sizeLine ∧ Q (.ref S1.length) (S1 ++ [.lst xs])
section
variable {X : Cx} {e : Expr} {es : List Expr} {fe : WE} {g : WA} {pos : Pos}
theorem ja_nil : JA X [] wNil := ⟨pa_imp pa_nil fun σ H Q ⟨ι, fr, S, Qp, hF, hS, hf, k⟩ => k ι H S [] [] .refl hS .nil hf⟩
theorem ja_cons (he : JE X e fe) (hr : JA X es g) (hs : starEach (e :: es) X.env = (false, eval e X.env) :: starEach es X.env := by rfl) : JA X (e :: es) (wCons fe g) :=
  ⟨pa_imp (pa_cons he.pe hr.pa hs) fun σ H Q ⟨ι, fr, S, Qp, hF, hS, hf, k⟩ => ⟨ι, fr, S, _, hF, hS, hf, fun ι1 H1 S1 x v f1 s1 r1 q1 => ⟨ι1, fr, S1, _, hF.fut f1, s1, q1, fun ι2 H2 S2 xs vs f2 s2 r2 q2 =>
    k ι2 H2 S2 (x :: xs) (v :: vs) (f1.trans f2) s2 (.cons (r1.fut f2) r2) q2⟩⟩⟩
theorem j_tup {x1} (h : JA X es g) : JE X (.Tuple es x1 pos) (wTup g) := ⟨pe_imp (pe_tup h.pa) fun σ H Q ⟨ι, fr, S, Qp, hF, hS, hf, k⟩ => ⟨ι, fr, S, _, hF, hS, hf, fun ι1 H1 S1 xs vs f1 s1 r1 q1 =>
  ⟨by rw [← r1.length]; exact q1.1, new_tup s1 r1 (fun ι' H' S' p v f2 => k ι' H' S' p v (f1.trans f2)) q1.2⟩⟩⟩
theorem j_lst (h : JA X es g) : JE X (.List es pos) (wLst g) := ⟨pe_imp (pe_lst h.pa) fun σ H Q ⟨ι, fr, S, Qp, hF, hS, hf, k⟩ => ⟨ι, fr, S, _, hF, hS, hf, fun ι1 H1 S1 xs vs f1 s1 r1 q1 =>
  ⟨by rw [← r1.length]; exact q1.1, new_list s1 r1 (fun ι' H' S' p v f2 => k ι' H' S' p v (f1.trans f2)) q1.2⟩⟩⟩
end

/-! ### what a def promises, plainly -/
abbrev PSp := List PV → Sto → Post → Prop
def liftSp (K : PySem.W.Frag) (sp : PSp) : Sp := fun vs H Q _ => ∃ (ι : List Addr) (S : Sto) (ps : List PV) (Qp : Post), RS K ι H S ∧ RVs K ι H ps vs ∧ sp ps S Qp ∧
  ∀ (ι' : List Addr) (H' : Hp) (S' : Sto) (p : PV) (v : V), Fut K ι H ι' H' → RS K ι' H' S' → RV K ι' H' p v → Qp p S' → Q v H'
/-- the name x is a def that keeps sp; k: how deep it may go -/
structure Fn (P : Program) (w : World) (K : PySem.W.Frag) (mg : Str → Option Value) (base : Heap) (k : Nat) (x : Str) (sp : PSp) : Prop where
  ex : ∃ (f : Addr) (fd : FuncData) (ps : List Str), FnOk P w K mg base CX0 k f fd ps (liftSp K sp) ∧ mg x = some (.ref f) ∧ PySem.W.keepIn K (.ref f) = true ∧ Binds K fd ps []
def wCall (sp : PSp) (g : WA) : WE := fun fr S Q => g fr S fun vs S1 => sp vs S1 Q
theorem tCall_of {K : PySem.W.Frag} {sp : PSp} {g : WA} {E : XK} (o : On T1 T0) : ∀ σ H Q, @tE T1 K (wCall sp g) σ H Q → tCall (@liftSp T0 K sp) [] E (@tA T1 K g) σ H Q := fun σ H Q ⟨ι, fr, S, Qp, hF, hS, hf, k⟩ =>
  ⟨ι, fr, S, _, hF, hS, hf, fun ι1 H1 S1 xs vs f1 s1 r1 q1 => ⟨ι1, S1, xs, Qp, s1.down o, by rw [List.append_nil]; exact r1, q1, fun ι' H' S' p v f2 s2 => k ι' H' S' p v (f1.trans f2) (RS.up o s1 f2 s2)⟩⟩
section
variable {X : Cx} {x : Str} {p pos : Pos} {e : Expr} {es : List Expr} {g : WA} {sp : PSp} {k : Nat}
theorem j_call [o : On T1 T0] (F : @Fn T0 X.prog X.w X.K X.mg X.base k x sp) (hr : Room k X.A) (ha : @JA T1 X (e :: es) g) (hg : Gl X x := by rfl)
    (hdb : (x == ("__debug__" : Str)) = false := by decide) (he : starEach (e :: es) X.env = (false, eval e X.env) :: starEach es X.env := by rfl) (hpl : (backTo pos (starEach es X.env)).any (·.1) = false := by rfl) :
    @JE T1 X (.Call (.Name x p) (e :: es) [] pos) (wCall sp g) := by
  obtain ⟨f, fd, ps, h1, h2, h3, h4⟩ := @Fn.ex T0 _ _ _ _ _ _ _ _ F
  exact ⟨pe_imp (pe_call h1 hr hg h2 h3 h4 .nil pass0 ha.pa hdb he hpl) (tCall_of o)⟩
end

/-! ### built-in functions -/
def KpN (K : PySem.W.Frag) (r : PSp) (q : List V → Hp → VK → Prop) : Prop := ∀ (ι : List Addr) (H : Hp) (S : Sto) (xs : List PV) (vs : List V) (Qp : Post) (Q : VK), RS K ι H S → RVs K ι H xs vs → r xs S Qp →
  (∀ ι' H' S' p v, Fut K ι H ι' H' → RS K ι' H' S' → RV K ι' H' p v → Qp p S' → Q v H') → q vs H Q
/-- a built-in that is called by values -/
structure CR1 (X : Cx) (f : Value) (r : PSp) : Prop where
  ex : ∃ q, CallR X f q ∧ KpN X.K r q
theorem tCB_of {K : PySem.W.Frag} {r : PSp} {q : List V → Hp → VK → Prop} {g : WA} (h : KpN K r q) : ∀ σ H Q, tE K (wCall r g) σ H Q → tCB q (tA K g) σ H Q := fun σ H Q ⟨ι, fr, S, Qp, hF, hS, hf, k⟩ =>
  ⟨ι, fr, S, _, hF, hS, hf, fun ι1 H1 S1 xs vs f1 s1 r1 q1 => h ι1 H1 S1 xs vs Qp Q s1 r1 q1 fun ι' H' S' p v f2 => k ι' H' S' p v (f1.trans f2)⟩
theorem CallR.or {X : Cx} {f : Value} {r q : List V → Hp → VK → Prop} (h1 : CallR X f r) (h2 : CallR X f q) : CallR X f (fun xs H Q => r xs H Q ∨ q xs H Q) := fun pins s σ H xs us Q I rx h => by
  rcases h with h | h
  · exact h1 pins s σ H xs us Q I rx h
  · exact h2 pins s σ H xs us Q I rx h
theorem CR1.or {X : Cx} {f : Value} {r r' : PSp} (h1 : CR1 X f r) (h2 : CR1 X f r') : CR1 X f (fun xs S Q => r xs S Q ∨ r' xs S Q) := by
  obtain ⟨q, a, b⟩ := h1.ex
  obtain ⟨q', a', b'⟩ := h2.ex
  exact ⟨_, CallR.or a a', fun ι H S xs vs Qp Q s rx h k => by
    rcases h with h | h
    · exact .inl (b ι H S xs vs Qp Q s rx h k)
    · exact .inr (b' ι H S xs vs Qp Q s rx h k)⟩
theorem CR1.imp {X : Cx} {f : Value} {r r' : PSp} (h : CR1 X f r) (i : ∀ xs S Q, r' xs S Q → r xs S Q) : CR1 X f r' := by
  obtain ⟨q, a, b⟩ := h.ex
  exact ⟨q, a, fun ι H S xs vs Qp Q s rx z k => b ι H S xs vs Qp Q s rx (i _ _ _ z) k⟩
section
variable {X : Cx} {x : Str} {p pos : Pos} {e : Expr} {es : List Expr} {g : WA} {r : PSp} {id T : String}
theorem j_blt (hc : CR1 X (.builtin id) r) (hm : X.mg x = none) (hv : bootBuiltins x = some (.builtin id)) (ha : JA X (e :: es) g) (hg : Gl X x := by rfl) (hn : x ≠ "__name__" := by decide) (hdb : (x == ("__debug__" : Str)) = false := by decide)
    (he : starEach (e :: es) X.env = (false, eval e X.env) :: starEach es X.env := by rfl) (hpl : (backTo pos (starEach es X.env)).any (·.1) = false := by rfl) : JE X (.Call (.Name x p) (e :: es) [] pos) (wCall r g) := by
  obtain ⟨q, h1, h2⟩ := hc.ex
  exact ⟨pe_imp (pe_callB h1 hg hm hv ha.pa hn hdb he hpl) (tCB_of h2)⟩
theorem j_bty (hc : CR1 X (.type T) r) (hm : X.mg x = none) (hv : bootBuiltins x = some (.type T)) (ha : JA X (e :: es) g) (hg : Gl X x := by rfl) (hn : x ≠ "__name__" := by decide) (hdb : (x == ("__debug__" : Str)) = false := by decide)
    (he : starEach (e :: es) X.env = (false, eval e X.env) :: starEach es X.env := by rfl) (hpl : (backTo pos (starEach es X.env)).any (·.1) = false := by rfl) : JE X (.Call (.Name x p) (e :: es) [] pos) (wCall r g) := by
  obtain ⟨q, h1, h2⟩ := hc.ex
  exact ⟨pe_imp (pe_callTy h1 hg hm hv ha.pa hn hdb he hpl) (tCB_of h2)⟩
end

/-- len -/
def pLen : PSp
  | [.str z], S, Q => z.length ≤ sizeLine ∧ Q (.int z.length) S
  | [.tup xs], S, Q => Q (.int xs.length) S
  | [.ref n], S, Q => (∃ xs, SL S n xs ∧ Q (.int xs.length) S) ∨ ∃ kvs, S[n]? = some (.dct kvs) ∧ Q (.int kvs.length) S
  | _, _, _ => False
theorem RVs.one {K : PySem.W.Frag} {ι : List Addr} {H : Hp} {p : PV} {vs : List V} (r : RVs K ι H [p] vs) : ∃ v, vs = [v] ∧ RV K ι H p v := by
  cases r with
  | cons r t => cases t; exact ⟨_, rfl, r⟩
theorem RVs.two {K : PySem.W.Frag} {ι : List Addr} {H : Hp} {p q : PV} {vs : List V} (r : RVs K ι H [p, q] vs) : ∃ v w, vs = [v, w] ∧ RV K ι H p v ∧ RV K ι H q w := by
  cases r with
  | cons r t =>
    obtain ⟨w, rfl, r'⟩ := t.one
    exact ⟨_, _, rfl, r, r'⟩
theorem RKs.length {κ : Type} {K : PySem.W.Frag} {ι : List Addr} {H : Hp} : ∀ {ps : List (κ × PV)} {vs : List (κ × V)}, RKs K ι H ps vs → ps.length = vs.length
  | _, _, .nil => rfl
  | _, _, .cons _ t => by rw [List.length_cons, List.length_cons, RKs.length t]
theorem b_len {X : Cx} : CR1 X (.builtin "len") pLen := ⟨_, CallR.or call_len_str (CallR.or call_len_seq call_lenD), fun ι H S xs vs Qp Q s rx h k => by
  match xs, rx, h with
  | [.str z], rx, h =>
    obtain ⟨v, rfl, r⟩ := rx.one
    cases r
    exact .inl ⟨z, rfl, h.1, k ι H S _ _ .refl s (.int _) h.2⟩
  | [.tup zs], rx, h =>
    obtain ⟨v, rfl, r⟩ := rx.one
    cases r with
    | tup ha ra =>
      refine .inr (.inl ⟨_, _, rfl, .inr ha, ?_⟩)
      rw [← ra.length]
      exact k ι H S _ _ .refl s (.int _) h
  | [.ref n], rx, h =>
    obtain ⟨v, rfl, r⟩ := rx.one
    cases r with
    | ref ha =>
      rcases h with ⟨zs, hz, q⟩ | ⟨kvs, hz, q⟩
      · obtain ⟨ws, h1, h2⟩ := s.sl ha hz
        refine .inr (.inl ⟨_, _, rfl, .inl h1, ?_⟩)
        rw [← h2.length]
        exact k ι H S _ _ .refl s (.int _) q
      · obtain ⟨ws, h1, h2⟩ := s.there hz ha
        refine .inr (.inr ⟨_, _, rfl, h1, ?_⟩)
        rw [← h2.length]
        exact k ι H S _ _ .refl s (.int _) q⟩
/-- list(s), tuple(s) -/
def pList : PSp
  | [p], S, Q => ∃ xs, Sq S p xs ∧ Q (.ref S.length) (S ++ [.lst xs])
  | _, _, _ => False
def pTuple : PSp
  | [p], S, Q => ∃ xs, Sq S p xs ∧ Q (.tup xs) S
  | _, _, _ => False
theorem b_list {X : Cx} : CR1 X (.type "list") pList := ⟨_, call_list_of, fun ι H S xs vs Qp Q s rx h k => by
  match xs, rx, h with
  | [p], rx, ⟨ys, hy, q⟩ =>
    obtain ⟨v, rfl, r⟩ := rx.one
    obtain ⟨a, ws, rfl, h1, h2⟩ := s.sq r hy
    exact ⟨a, ws, rfl, h1, new_list s h2 k q⟩⟩
theorem b_tuple {X : Cx} : CR1 X (.type "tuple") pTuple := ⟨_, call_tuple_of, fun ι H S xs vs Qp Q s rx h k => by
  match xs, rx, h with
  | [p], rx, ⟨ys, hy, q⟩ =>
    obtain ⟨v, rfl, r⟩ := rx.one
    obtain ⟨a, ws, rfl, h1, h2⟩ := s.sq r hy
    rcases h1 with h1 | h1
    · exact ⟨a, ws, rfl, .inl ⟨h1, new_tup s h2 k q⟩⟩
    · exact ⟨a, ws, rfl, .inr ⟨h1, k ι H S (.tup ys) _ .refl s (.tup h1 h2) q⟩⟩⟩

/-- repr -/
def pRepr : PSp
  | [p], S, Q => ∃ d, PDt S p d ∧ d.showable = true ∧ d.depth ≤ 50 ∧ d.shown.length ≤ sizeLine ∧ Q (.str d.shown) S
  | _, _, _ => False

/-- isinstance -/
inductive Kind | none | bool | int | str | tuple | list | dict
  deriving DecidableEq
end M

namespace M
open PySem PySem.Spec PyProof.Rows L2
variable [Tabs]

/-! ### repr -/
mutual
theorem Dp.noDict {K : PySem.W.Frag} {H : Hp} : ∀ {d : PyData} {v : V}, Dp K H v d → d.hasDict = false
  | _, _, .non => by simp only [PyData.hasDict]
  | _, _, .bl _ => by simp only [PyData.hasDict]
  | _, _, .int _ => by simp only [PyData.hasDict]
  | _, _, .str _ => by simp only [PyData.hasDict]
  | _, _, .lst _ h => by simp only [PyData.hasDict]; exact DpAll.noDict h
  | _, _, .tup _ h => by simp only [PyData.hasDict]; exact DpAll.noDict h
theorem DpAll.noDict {K : PySem.W.Frag} {H : Hp} : ∀ {ds : List PyData} {vs : List V}, DpAll K H vs ds → PyData.hasDictAll ds = false
  | _, _, .nil => by simp only [PyData.hasDictAll]
  | _, _, .cons h t => by simp only [PyData.hasDictAll, Dp.noDict h, DpAll.noDict t, Bool.or_self]
end
def rRepr (K : PySem.W.Frag) : List V → Hp → VK → Prop := fun vs H Q => ∃ v d, vs = [v] ∧ Dp K H v d ∧ d.showable = true ∧ d.depth ≤ 50 ∧ d.shown.length ≤ sizeLine ∧ Q (.str d.shown) H
theorem call_reprD {X : Cx} (hg : X.A.guards = some []) (hu : X.A.units + 64 < cLine) : CallR X (.builtin "repr") (rRepr X.K) := by
  intro pins s σ H xs us Q I r h
  obtain ⟨v, d, rfl, hd, h1, h2, h3, q⟩ := h
  obtain ⟨u, rfl, ru⟩ := vals1 r
  have nd := Dp.noDict hd
  have fin : ∀ (h' : Heap) (t : Tok) (tk : Nat), (∀ b o, s.heap.get? b = some o → h'.get? b = some o) → EP X pins σ Q (.str d.shown t) { s with heap := h', toks := tk } := fun h' t tk hk =>
    ⟨.str d.shown, H, I.kept (t' := tk) hk, ⟨t, rfl⟩, q⟩
  have fin0 : EP X pins σ Q (.str d.shown s.toks) { s with toks := s.toks + 1 } := ⟨.str d.shown, H, I.tok _, ⟨_, rfl⟩, q⟩
  cases hd with
  | non => cases ru; exact PySem.P.repr_of_none (by simpa only [PyData.shown] using fin0)
  | bl b => cases ru; exact PySem.P.repr_of_bool (by simpa only [PyData.shown] using fin0)
  | int i =>
    obtain ⟨t, rfl⟩ := ru
    exact PySem.P.repr_of_int (by simpa [PyData.showable] using h1) (by simpa only [PyData.shown] using fin0)
  | str x =>
    obtain ⟨t, rfl⟩ := ru
    exact PySem.P.repr_of_str (by simpa only [PyData.shown] using fin0) (by simpa only [PyData.shown] using h3)
  | lst hs ha =>
    obtain ⟨as, rd⟩ := Dp.reads I _ _ _ (.lst hs ha) ru
    cases ru
    exact repr_of_reads' rd h1 (PyData.noDict_hsm nd) hg (by omega) (fun _ _ e => e) (fun h' t tk hk => fin h' t tk hk) h3
  | tup hs ha =>
    obtain ⟨as, rd⟩ := Dp.reads I _ _ _ (.tup hs ha) ru
    cases ru
    exact repr_of_reads' rd h1 (PyData.noDict_hsm nd) hg (by omega) (fun _ _ e => e) (fun h' t tk hk => fin h' t tk hk) h3
theorem b_repr {X : Cx} (hg : X.A.guards = some []) (hu : X.A.units + 64 < cLine) : CR1 X (.builtin "repr") pRepr := ⟨_, call_reprD hg hu, fun ι H S xs vs Qp Q s rx h k => by
  match xs, rx, h with
  | [p], rx, ⟨d, h1, h2, h3, h4, q⟩ =>
    obtain ⟨v, rfl, r⟩ := rx.one
    exact ⟨v, d, rfl, h1.dp s r, h2, h3, h4, k ι H S _ _ .refl s (.str _) q⟩⟩

/-! ### items -/
theorem RVs.atI {K : PySem.W.Frag} {ι : List Addr} {H : Hp} {ps : List PV} {vs : List V} {i : Int} {p : PV} (r : RVs K ι H ps vs) (h : atI ps i = some p) : ∃ v, L2.atI vs i = some v ∧ RV K ι H p v := by
  unfold L2.atI at h ⊢
  rw [← r.length]
  obtain ⟨j, h1, h2⟩ := Option.bind_eq_some_iff.mp h
  obtain ⟨v, h3, h4⟩ := r.get h2
  exact ⟨v, by rw [h1]; exact h3, h4⟩
def bIdx : P2
  | .tup xs, .int i, S, Q => ∃ p, atI xs i = some p ∧ Q p S
  | .ref n, .int i, S, Q => ∃ xs p, SL S n xs ∧ atI xs i = some p ∧ Q p S
  | .str z, .int i, S, Q => ∃ c, z.length ≤ sizeLine ∧ atI z.cps.toList i = some c ∧ Q (.str ⟨#[c]⟩) S
  | _, _, _, _ => False
section
variable {X : Cx} {a b : Expr} {fa fb : WE} {pos : Pos}
theorem Kp_idx {K : PySem.W.Frag} : Kp2 K bIdx (rIx K) := fun ι H S x y v w Qp Q s rx ry h k => by
  cases x <;> cases y <;> first | exact h.elim | skip
  · cases rx; cases ry
    obtain ⟨c, h1, h2, q⟩ := h
    exact .inr (.inr ⟨_, _, c, rfl, rfl, h1, h2, k ι H S _ _ .refl s (.str _) q⟩)
  · cases ry
    obtain ⟨p, h1, q⟩ := h
    cases rx with
    | tup ha ra =>
      obtain ⟨u, h2, r2⟩ := ra.atI h1
      exact .inr (.inl ⟨_, _, _, u, rfl, rfl, ha, h2, k ι H S _ _ .refl s r2 q⟩)
  · cases ry
    obtain ⟨xs, p, h0, h1, q⟩ := h
    cases rx with
    | ref ha =>
      obtain ⟨vs, h3, r3⟩ := s.sl ha h0
      obtain ⟨u, h2, r2⟩ := r3.atI h1
      exact .inl ⟨_, _, _, u, rfl, rfl, h3, h2, k ι H S _ _ .refl s r2 q⟩
theorem j_idx (ha : JE X a fa) (hb : JE X b fb) (hs : PlainIx b := by exact fun _ _ => rfl) : JE X (.Subscript a b pos) (wOp bIdx fa fb) := ⟨pe_imp (pe_ix ix_seq ha.pe hb.pe hs) (tOp_of Kp_idx)⟩
end

/-! ### slices -/
abbrev WO := Fr → Sto → (Option Int → Sto → Prop) → Prop
def tO (K : PySem.W.Frag) (f : WO) : TO := fun σ H Q => ∃ (ι : List Addr) (fr : Fr) (S : Sto) (Qp : Option Int → Sto → Prop), RF K ι H fr σ ∧ RS K ι H S ∧ f fr S Qp ∧
  ∀ (ι' : List Addr) (H' : Hp) (S' : Sto) (o : Option Int), Fut K ι H ι' H' → RS K ι' H' S' → Qp o S' → Q o H'
structure JO (X : Cx) (e : Option Expr) (f : WO) : Prop where
  po : PO X e (tO X.K f)
theorem po_imp {X : Cx} {e : Option Expr} {t t' : TO} (h : PO X e t) (i : ∀ σ H Q, t' σ H Q → t σ H Q) : PO X e t' := fun pins s σ H Q I q => h pins s σ H Q I (i σ H Q q)
def wNoPart : WO := fun _ S Q => Q none S
def wPart (f : WE) : WO := fun fr S Q => f fr S fun x S1 => ∃ i, x = .int i ∧ Q (some i) S1
section
variable {X : Cx} {e : Expr} {fe : WE} {lo hi : Option Expr} {fl fh : WO} {p2 pos : Pos}
theorem jo_none : JO X none wNoPart := ⟨po_imp po_none fun σ H Q ⟨ι, fr, S, Qp, hF, hS, hf, k⟩ => k ι H S none .refl hS hf⟩
theorem jo_some (he : JE X e fe) : JO X (some e) (wPart fe) := ⟨po_imp (po_some he.pe) fun σ H Q ⟨ι, fr, S, Qp, hF, hS, hf, k⟩ => ⟨ι, fr, S, _, hF, hS, hf, fun ι1 H1 S1 x v f1 s1 r1 ⟨i, ei, q⟩ => by
  subst ei
  cases r1
  exact ⟨i, rfl, k ι1 H1 S1 (some i) f1 s1 q⟩⟩⟩
def cutP (xs : List PV) (lo hi : Option Int) : List PV := (xs.drop (HT.sIx xs.length 0 lo)).take (HT.sIx xs.length xs.length hi - HT.sIx xs.length 0 lo)
theorem RVs.cut {K : PySem.W.Frag} {ι : List Addr} {H : Hp} {ps : List PV} {vs : List V} (r : RVs K ι H ps vs) (lo hi : Option Int) : RVs K ι H (cutP ps lo hi) (cutV vs lo hi) := by
  unfold cutP cutV
  rw [← r.length]
  exact (r.drop _).take _
theorem cutP_whole (xs : List PV) {lo hi : Option Int} (h1 : HT.sIx xs.length 0 lo = 0) (h2 : HT.sIx xs.length xs.length hi = xs.length) : cutP xs lo hi = xs := by
  unfold cutP
  rw [h1, h2, List.drop_zero, Nat.sub_zero, List.take_length]
/-- a whole tuple's slice is the tuple -/
theorem getItem_tuple_whole {prog : Program} {w : World} {A : Around} {E : Value → Shared → Prop} {s : Shared} {t sl : Addr} {items : Array Value} {vl vu : Value} {lo hi : Option Int} {Q : Value → Shared → Prop} (ht : IsTup s.heap t items) (hs : s.heap.IsSliceOf sl vl vu .none) (pl : IsPart vl lo) (pu : IsPart vu hi)
    (hw : HT.sIx items.size 0 lo = 0 ∧ HT.sIx items.size items.size hi = items.size) (h : Q (.ref t) s) : wpAny (model prog w) A (getItem (.ref t) (.ref sl)) Q E s := by
  obtain ⟨os, hos, hcs, hds⟩ := id hs
  have hTs : s.TypeIs (.ref sl) "slice" := ⟨os, hos, hcs⟩
  obtain ⟨ot, hot, hct, nt, hdt⟩ := id ht
  unfold getItem
  try with_reducible refine wpAny_holding ?_
  first | refine wpAny_bind (wpAny_pure ?_) | skip
  refine wpAny_bind (wpAny_sequenceKey ht.typeIs (by decide) ?_)
  refine wpAny_bind (wpAny_callSpecial?_slot (name := Str.ofString "__getitem__") ht.typeIs PyProof.Rows.slot_tuple_getitem
    (wpAny_call_entry PyProof.Rows.slot_tuple_getitem ht.typeIs entry_tuple_getitem ?_ (args_tuple_getitem _ _)))
  show wpAny _ _ (Builtin.Tuple.tupleItemsOf (.ref t) >>= _) _ _ s
  refine wpAny_bind (tupleItemsOf_ ht ?_)
  refine wpAny_bind (wpAny_typeOf hTs ?_)
  rw [if_pos (by decide)]
  refine wpAny_bind (HT.sliceApplied_gen hs pl pu ?_)
  have hno : (((HT.sIx items.size 0 lo : Nat) : Int) == 0 && (1 : Int) == 1 && (HT.sIx items.size items.size hi - HT.sIx items.size 0 lo) == items.size) = true := by
    rw [hw.1, hw.2]
    simp
  show wpAny _ _ (if (((HT.sIx items.size 0 lo : Nat) : Int) == 0 && (1 : Int) == 1 && (HT.sIx items.size items.size hi - HT.sIx items.size 0 lo) == items.size) = true then _ else _) _ _ s
  rw [if_pos hno]
  unfold Builtin.Tuple.tupleIsExact
  refine wpAny_bind (wpAny_bind (wpAny_typeOf ht.typeIs (wpAny_pure ?_)))
  rw [if_pos (by decide)]
  exact wpAny_bind (wpAny_rule (wpAny_pure ⟨_, rfl, wpAny_pure h⟩))
def rSlA (K : PySem.W.Frag) : V → Option Int → Option Int → Hp → VK → Prop := fun x lo hi H Q => ∃ a xs, x = .ref a ∧ SqT K H a xs ∧ HT.sIx xs.length 0 lo = 0 ∧ HT.sIx xs.length xs.length hi = xs.length ∧ Q (.ref a) H
theorem sl_tupW : SlR X (rSlA X.K) := by
  intro pins s σ H x v vl vu lo hi sl Q I rx hs pl pu h
  obtain ⟨a, xs, rfl, hx, h1, h2, q⟩ := h
  cases rx
  obtain ⟨its, r, ht, hz⟩ := I.tuple hx
  have hlen : its.toArray.size = xs.length := by rw [List.size_toArray]; exact r.length.symm
  exact ⟨"tuple", _, PyProof.Rows.slot_tuple_getitem.lookup, ht.typeIs, getItem_tuple_whole ht hs pl pu (by rw [hlen]; exact ⟨h1, h2⟩) ⟨.ref a, H, I, rfl, q⟩⟩
def bSl : PV → Option Int → Option Int → Sto → Post → Prop
  | .tup xs, lo, hi, S, Q => Q (.tup (cutP xs lo hi)) S
  | .ref n, lo, hi, S, Q => ∃ xs, SL S n xs ∧ Q (.ref S.length) (S ++ [.lst (cutP xs lo hi)])
  | .str z, lo, hi, S, Q => z.length ≤ sizeLine ∧ Q (.str (cutS z lo hi)) S
  | .kls xs, lo, hi, S, Q => Q (.ref S.length) (S ++ [.lst (cutP xs lo hi)])
  | _, _, _, _, _ => False
def wSl (f : WE) (fl fh : WO) : WE := fun fr S Q => f fr S fun x S1 => fl fr S1 fun l S2 => fh fr S2 fun u S3 => bSl x l u S3 Q
theorem j_slice (he : JE X e fe) (hl : JO X lo fl) (hh : JO X hi fh) : JE X (.Subscript e (.Slice lo hi none p2) pos) (wSl fe fl fh) :=
  ⟨pe_imp (pe_slice (SlR.or sl_tupW (SlR.or sl_tup (SlR.or sl_list sl_str))) he.pe hl.po hh.po) fun σ H Q ⟨ι, fr, S, Qp, hF, hS, hf, k⟩ => ⟨ι, fr, S, _, hF, hS, hf, fun ι1 H1 S1 x v f1 s1 r1 q1 =>
    ⟨ι1, fr, S1, _, hF.fut f1, s1, q1, fun ι2 H2 S2 l f2 s2 q2 => ⟨ι2, fr, S2, _, hF.fut (f1.trans f2), s2, q2, fun ι3 H3 S3 u f3 s3 q3 => by
      have f13 := (f1.trans f2).trans f3
      have r3 := r1.fut (f2.trans f3)
      cases r3 with
      | tup ha ra =>
        rename_i a xs vs
        by_cases hw : HT.sIx vs.length 0 l = 0 ∧ HT.sIx vs.length vs.length u = vs.length
        · refine .inl ⟨a, vs, rfl, ha, hw.1, hw.2, ?_⟩
          refine k ι3 H3 S3 (.tup xs) _ f13 s3 (.tup ha ra) ?_
          have q : Qp (.tup (cutP xs l u)) S3 := q3
          rwa [cutP_whole xs (by rw [ra.length]; exact hw.1) (by rw [ra.length]; exact hw.2)] at q
        · exact .inr (.inl ⟨a, vs, rfl, ha, hw, new_tup s3 (ra.cut l u) (fun ι' H' S' p v f4 => k ι' H' S' p v (f13.trans f4)) q3⟩)
      | ref ha =>
        obtain ⟨xs, h1, q⟩ := q3
        obtain ⟨vs, h2, r2⟩ := s3.sl ha h1
        exact .inr (.inr (.inl ⟨_, vs, rfl, h2, new_list s3 (r2.cut l u) (fun ι' H' S' p v f4 => k ι' H' S' p v (f13.trans f4)) q⟩))
      | kls ha ra => exact .inr (.inr (.inl ⟨_, _, rfl, ha.sq, new_list s3 (ra.cut l u) (fun ι' H' S' p v f4 => k ι' H' S' p v (f13.trans f4)) q3⟩))
      | str z => exact .inr (.inr (.inr ⟨z, rfl, q3.1, k ι3 H3 S3 _ _ f13 s3 (.str _) q3.2⟩))
      | _ => exact q3.elim⟩⟩⟩⟩
end
end M

namespace M
open PySem PySem.Spec PyProof.Rows L2
variable [Tabs]

/-! ### s[::-1] -/
end M

namespace M
open PySem PySem.Spec PyProof.Rows L2
variable [Tabs]

/-! ### dicts with keys that are ints and texts -/
def keyP : PV → Option Key
  | .int i => some (.inl i)
  | .str x => some (.inr x)
  | _ => none
def valP (kvs : List (Key × PV)) (k : Key) : Option PV := (kvs.find? fun kv => decide (kv.1 = k)).map (·.2)
def putP (kvs : List (Key × PV)) (k : Key) (v : PV) : List (Key × PV) := if (kvs.any fun kv => decide (kv.1 = k)) then kvs.map (fun kv => if kv.1 = k then (kv.1, v) else kv) else kvs ++ [(k, v)]
section
variable {K : PySem.W.Frag} {ι : List Addr} {H : Hp} {S : Sto}
theorem RV.key {p : PV} {v : V} {k : Key} (r : RV K ι H p v) (h : keyP p = some k) : v = kV k := by
  cases r <;> first | (cases h; rfl) | cases h
theorem RKs.val {k : Key} : ∀ {ps : List (Key × PV)} {vs : List (Key × V)}, RKs K ι H ps vs → ∀ {p : PV}, valP ps k = some p → ∃ v, valV vs k = some v ∧ RV K ι H p v
  | _, _, .nil, _, h => by cases h
  | _, _, .cons (k := k') (p := p') (v := v') r t, p, h => by
    unfold valP at h
    unfold valV
    rw [List.find?_cons] at h ⊢
    by_cases e : k' = k
    · rw [show (decide ((k', p').1 = k)) = true from decide_eq_true e] at h
      rw [show (decide ((k', v').1 = k)) = true from decide_eq_true e]
      cases h
      exact ⟨v', rfl, r⟩
    · rw [show (decide ((k', p').1 = k)) = false from decide_eq_false e] at h
      rw [show (decide ((k', v').1 = k)) = false from decide_eq_false e]
      exact RKs.val t h
theorem RKs.any {k : Key} : ∀ {ps : List (Key × PV)} {vs : List (Key × V)}, RKs K ι H ps vs → (vs.any fun kv => decide (kv.1 = k)) = (ps.any fun kv => decide (kv.1 = k))
  | _, _, .nil => rfl
  | _, _, .cons r t => by rw [List.any_cons, List.any_cons, RKs.any t]
theorem RKs.app {κ : Type} : ∀ {ps qs : List (κ × PV)} {vs ws : List (κ × V)}, RKs K ι H ps vs → RKs K ι H qs ws → RKs K ι H (ps ++ qs) (vs ++ ws)
  | _, _, _, _, .nil, s => s
  | _, _, _, _, .cons r t, s => .cons r (RKs.app t s)
theorem RKs.repl {k : Key} {p : PV} {v : V} (rp : RV K ι H p v) : ∀ {ps : List (Key × PV)} {vs : List (Key × V)}, RKs K ι H ps vs → RKs K ι H (ps.map fun kv => if kv.1 = k then (kv.1, p) else kv) (vs.map fun kv => if kv.1 = k then (kv.1, v) else kv)
  | _, _, .nil => .nil
  | _, _, .cons (k := k') r t => by
    rw [List.map_cons, List.map_cons]
    by_cases e : k' = k
    · rw [if_pos e, if_pos e]
      exact .cons rp (RKs.repl rp t)
    · rw [if_neg e, if_neg e]
      exact .cons r (RKs.repl rp t)
theorem RKs.put {k : Key} {p : PV} {v : V} {ps : List (Key × PV)} {vs : List (Key × V)} (r : RKs K ι H ps vs) (rp : RV K ι H p v) : RKs K ι H (putP ps k p) (putK vs k v) := by
  unfold putP putK
  rw [r.any]
  split
  · exact r.repl rp
  · exact r.app (.cons rp .nil)
end
section
variable {X : Cx} {o i value : Expr} {fo fi fv : WE} {pos pos' : Pos}
end

/-! ### a dict that is written out -/
inductive RPs (K : PySem.W.Frag) (ι : List Addr) (H : Hp) : List (PV × PV) → List (V × V) → Prop
  | nil : RPs K ι H [] []
  | cons {p q : PV} {v w : V} {ps : List (PV × PV)} {vs : List (V × V)} : RV K ι H p v → RV K ι H q w → RPs K ι H ps vs → RPs K ι H ((p, q) :: ps) ((v, w) :: vs)
structure JPs (X : Cx) (pos : Pos) (keys : List (Option Expr)) (values : List Expr) (ws : List (WE × WE)) : Prop where
  pps : PPs X pos keys values (ws.map fun w => (tE X.K w.1, tE X.K w.2))
theorem RPs.keys {K : PySem.W.Frag} {ι : List Addr} {H : Hp} : ∀ {kvs : List (Key × PV)} {ps : List (PV × PV)} {vs : List (V × V)}, RPs K ι H ps vs → ps.map (fun q => (keyP q.1, q.2)) = kvs.map (fun kv => (some kv.1, kv.2)) →
    ∃ ws : List (Key × V), vs = ws.map (fun kv => (kV kv.1, kv.2)) ∧ RKs K ι H kvs ws
  | kvs, _, _, .nil, e => by
    cases kvs with
    | nil => exact ⟨[], rfl, .nil⟩
    | cons _ _ => cases e
  | kvs, _, _, .cons (p := p) (q := q) (v := v) (w := w) r1 r2 t, e => by
    cases kvs with
    | nil => cases e
    | cons kv kvs =>
      rw [List.map_cons, List.map_cons] at e
      injection e with e1 e2
      obtain ⟨ws, e3, r3⟩ := RPs.keys t e2
      have e4 : keyP p = some kv.1 := congrArg Prod.fst e1
      have e5 : q = kv.2 := congrArg Prod.snd e1
      subst e5
      refine ⟨(kv.1, w) :: ws, ?_, .cons r2 r3⟩
      rw [List.map_cons, ← e3, r1.key e4]
/-- something laid aside, then a thing of the store -/
theorem RS.take_in {K : PySem.W.Frag} {ι : List Addr} {H : Hp} {S : Sto} {a : Addr} {o : HO} {m : MO} (r : RS K ι H S) (ha : a ∉ ι) (hm : RO K (ι ++ [a]) (L2.upd H a o) a m) (hnt : ∀ b xs, SqT K H b xs → SqT K (L2.upd H a o) b xs) (hnb : ∀ ps, H a ≠ some (.tbl ps)) (hnx : ∀ ws, H a ≠ some (.xd ws)) (hsi : Tabs.since K (ι ++ [a]) (L2.upd H a o)) :
    RS K (ι ++ [a]) (L2.upd H a o) (S ++ [m]) where
  len := by rw [List.length_append, List.length_append, r.len]; rfl
  nd := by
    rw [List.nodup_append]
    refine ⟨r.nd, by simp, fun x hx y hy => ?_⟩
    simp only [List.mem_singleton] at hy
    subst hy
    rintro rfl
    exact ha hx
  obj := fun n u e => by
    have pre : ∀ (n : Nat) (b : Addr), ι[n]? = some b → (ι ++ [a])[n]? = some b := fun n b h => by rw [List.getElem?_append_left (List.getElem?_eq_some_iff.mp h).1]; exact h
    by_cases hl : n < S.length
    · rw [List.getElem?_append_left hl] at e
      obtain ⟨b, h1, h2⟩ := r.obj n u e
      have hb : b ≠ a := fun z => ha (z ▸ List.mem_of_getElem? h1)
      exact ⟨b, pre n b h1, RO.mv pre hnt (fun d ws z1 z2 => have nd : d ≠ a := fun z => hnx ws (by rw [← z]; exact z2); ⟨by simp only [List.mem_append, List.mem_singleton, not_or]; exact ⟨z1, nd⟩, by rw [L2.upd_ne nd]; exact z2⟩) (upd_ne hb) h2⟩
    · have hl2 : n = S.length := by
        have := (List.getElem?_eq_some_iff.mp e).1
        rw [List.length_append, List.length_singleton] at this
        omega
      subst hl2
      rw [List.getElem?_append_right (Nat.le_refl _)] at e
      simp only [Nat.sub_self, List.getElem?_cons_zero, Option.some.injEq] at e
      subst e
      refine ⟨a, ?_, hm⟩
      rw [← r.len, List.getElem?_append_right (Nat.le_refl _)]
      simp
  tab := fun P hP => let ⟨ps, e, t⟩ := r.tab P hP; ⟨ps, by rw [L2.upd_ne (fun z => hnb ps (by rw [← z]; exact e))]; exact e, t⟩
  si := hsi
theorem sqT_upd {K : PySem.W.Frag} {H : Hp} {a : Addr} {o u : HO} (h : H a = some u) (hu : HidO u) : ∀ b xs, SqT K H b xs → SqT K (upd H a o) b xs := fun b xs z => by
  rcases z with (z | ⟨ob, z⟩) | z
  · refine .inl (.inl ?_)
    rw [upd_ne (ne_of z h (by rintro rfl; exact hu))]; exact z
  · refine .inl (.inr ⟨ob, ?_⟩)
    rw [upd_ne (ne_of z h (by rintro rfl; exact hu))]; exact z
  · exact .inr z
/-! ### methods of lists (and texts) -/
abbrev PM := PV → List PV → Sto → Post → Prop
def KpM (K : PySem.W.Frag) (T : String) (r : PM) (q : V → List V → Hp → VK → Prop) : Prop := ∀ (ι : List Addr) (H : Hp) (S : Sto) (x : PV) (v : V) (xs : List PV) (vs : List V) (Qp : Post) (Q : VK), RS K ι H S → RV K ι H x v → RVs K ι H xs vs → r x xs S Qp →
  (∀ ι' H' S' p v, Fut K ι H ι' H' → RS K ι' H' S' → RV K ι' H' p v → Qp p S' → Q v H') → q v vs H Q
structure MT1 (X : Cx) (T id : String) (r : PM) : Prop where
  ex : ∃ q, MtR X id q ∧ KpM X.K T r q
/-- the receiver's kind -/
def TyP (S : Sto) : String → PV → Prop
  | "list", .ref n => ∃ xs, SL S n xs
  | "str", .str _ => True
  | _, _ => False
theorem TyP.ty {K : PySem.W.Frag} {ι : List Addr} {H : Hp} {S : Sto} {T : String} {p : PV} {v : V} (s : RS K ι H S) (r : RV K ι H p v) (h : TyP S T p) : tyV K T v H := by
  unfold TyP at h
  split at h
  · cases r with
    | ref ha =>
      obtain ⟨xs, hx⟩ := h
      obtain ⟨vs, h1, _⟩ := s.sl ha hx
      exact .inl ⟨rfl, vs, h1⟩
  · cases r
    rfl
  · exact h.elim
section
variable {X : Cx} {T id : String} {name : Str} {o e : Expr} {es : List Expr} {fo : WE} {g : WA} {r : PM} {apos cpos : Pos}
end
/-- a list of the store becomes another one -/
theorem set_lst {K : PySem.W.Frag} {ι : List Addr} {H : Hp} {S : Sto} {n : Nat} {a : Addr} {xs ys : List PV} {ws : List V} (s : RS K ι H S) (ha : ι[n]? = some a) (h : S[n]? = some (.lst xs)) (r : RVs K ι H ys ws) :
    Fut K ι H ι (upd H a (.lst ws)) ∧ RS K ι (upd H a (.lst ws)) (S.set n (.lst ys)) :=
  ⟨fut_upd s ha h, s.upd ha h ⟨ws, upd_same, r.fut (fut_upd s ha h)⟩⟩
end M

namespace M
open PySem PySem.Spec PyProof.Rows L2
variable [Tabs]

/-! ### targets -/
abbrev WG := PV → Fr → Sto → (Fr → Sto → Prop) → Prop
abbrev WGs := List PV → Fr → Sto → (Fr → Sto → Prop) → Prop
def tG (K : PySem.W.Frag) (g : WG) : TG := fun v σ H Q => ∃ (ι : List Addr) (fr : Fr) (S : Sto) (p : PV) (Qp : Fr → Sto → Prop), RF K ι H fr σ ∧ RS K ι H S ∧ RV K ι H p v ∧ g p fr S Qp ∧
  ∀ (ι' : List Addr) (H' : Hp) (S' : Sto) (fr' : Fr) (σ' : L2.St), Fut K ι H ι' H' → RS K ι' H' S' → RF K ι' H' fr' σ' → Qp fr' S' → Q σ' H'
def tGs (K : PySem.W.Frag) (g : WGs) : TGs := fun vs σ H Q => ∃ (ι : List Addr) (fr : Fr) (S : Sto) (ps : List PV) (Qp : Fr → Sto → Prop), RF K ι H fr σ ∧ RS K ι H S ∧ RVs K ι H ps vs ∧ g ps fr S Qp ∧
  ∀ (ι' : List Addr) (H' : Hp) (S' : Sto) (fr' : Fr) (σ' : L2.St), Fut K ι H ι' H' → RS K ι' H' S' → RF K ι' H' fr' σ' → Qp fr' S' → Q σ' H'
structure JG (X : Cx) (tg : Expr) (g : WG) : Prop where
  pg : PG X tg (tG X.K g)
structure JGs (X : Cx) (tgs : List Expr) (g : WGs) : Prop where
  pgs : PGs X tgs (tGs X.K g)
theorem pg_imp {X : Cx} {e : Expr} {t t' : TG} (h : PG X e t) (i : ∀ v σ H Q, t' v σ H Q → t v σ H Q) : PG X e t' := fun pins s σ H v u Q I r q => h pins s σ H v u Q I r (i v σ H Q q)
theorem pgs_imp {X : Cx} {e : List Expr} {t t' : TGs} (h : PGs X e t) (i : ∀ v σ H Q, t' v σ H Q → t v σ H Q) : PGs X e t' := fun pins s σ H v u Q I r q => h pins s σ H v u Q I r (i v σ H Q q)
theorem RF.set {K : PySem.W.Frag} {ι : List Addr} {H : Hp} {fr : Fr} {σ : L2.St} (r : RF K ι H fr σ) (i : Nat) {p : PV} {v : V} (rv : RV K ι H p v) : RF K ι H (fr.set i (some p)) (σ.set i (some v)) where
  len := by rw [List.length_set, List.length_set, r.len]
  at_ := fun j q e => by
    by_cases h : i = j
    · subst h
      by_cases hl : i < fr.length
      · rw [List.getElem?_set_self hl] at e
        cases e
        exact ⟨v, by rw [List.getElem?_set_self (by rw [← r.len]; exact hl)], rv⟩
      · rw [List.getElem?_eq_none (by rw [List.length_set]; omega)] at e
        cases e
    · rw [List.getElem?_set_ne h] at e
      obtain ⟨w, h1, h2⟩ := r.at_ j q e
      exact ⟨w, by rw [List.getElem?_set_ne h]; exact h1, h2⟩
def pName (i : Nat) : WG := fun p fr S Q => Q (fr.set i (some p)) S
def pGNil : WGs := fun ps fr S Q => ps = [] ∧ Q fr S
def pGCons (g : WG) (h : WGs) : WGs := fun ps fr S Q => ∃ p r, ps = p :: r ∧ g p fr S fun fr' S' => h r fr' S' Q
def pGTup (n : Nat) (g : WGs) : WG := fun p fr S Q => ∃ xs, p = .tup xs ∧ xs.length = n ∧ g xs fr S Q
section
variable {X : Cx} {pos : Pos}
theorem jg_name (i : Nat) {x : Str} (hN : X.N.Nodup) (hi : X.N[i]? = some x := by rfl) (hx : Loc X.env.scope x := by first | exact Or.inl rfl | exact Or.inr rfl)
    (hf : X.fn x = true ∨ X.env.scope.names.lookup x = some .local := by first | exact .inl rfl | exact .inr rfl) : JG X (.Name x pos) (pName i) :=
  ⟨pg_imp (pg_name hN hi hx hf) fun v σ H Q ⟨ι, fr, S, p, Qp, hF, hS, hv, h, k⟩ => k ι H S _ _ .refl hS (hF.set i hv) h⟩
theorem jgs_nil : JGs X [] pGNil := ⟨pgs_imp pgs_nil fun vs σ H Q ⟨ι, fr, S, ps, Qp, hF, hS, hv, ⟨e, h⟩, k⟩ => by
  subst e
  cases hv
  exact ⟨rfl, k ι H S _ _ .refl hS hF h⟩⟩
theorem jgs_cons {e : Expr} {es : List Expr} {g : WG} {h : WGs} (h1 : JG X e g) (h2 : JGs X es h)
    (hs : (assignEach (e :: es) X.env).map (·.2) = assign e X.env :: (assignEach es X.env).map (·.2) := by rfl) : JGs X (e :: es) (pGCons g h) :=
  ⟨pgs_imp (pgs_cons h1.pg h2.pgs hs) fun vs σ H Q ⟨ι, fr, S, ps, Qp, hF, hS, hv, ⟨p, r, e, q⟩, k⟩ => by
    subst e
    cases hv with
    | cons r1 r2 => exact ⟨_, _, rfl, ι, fr, S, p, _, hF, hS, r1, q, fun ι1 H1 S1 fr1 σ1 f1 s1 F1 q1 => ⟨ι1, fr1, S1, r, Qp, F1, s1, r2.fut f1, q1, fun ι' H' S' fr' σ' f2 => k ι' H' S' fr' σ' (f1.trans f2)⟩⟩⟩
theorem jg_tup {es : List Expr} {k n : Nat} {g : WGs} (h : JGs X es g) (hc : X.calm = true := by rfl)
    (hn : (assignEach es X.env).length = n := by rfl) (hst : (assignEach es X.env).findIdx? (·.1) = none := by rfl) : JG X (.Tuple es k pos) (pGTup n g) :=
  ⟨pg_imp (pg_tup hc h.pgs hn hst) fun v σ H Q ⟨ι, fr, S, p, Qp, hF, hS, hv, ⟨xs, e, hl, q⟩, kk⟩ => by
    subst e
    cases hv with
    | tup ha ra => exact ⟨_, _, rfl, ha, by rw [← ra.length]; exact hl, ι, fr, S, xs, Qp, hF, hS, ra, q, kk⟩⟩
end

/-! ### statements -/
def wNext : WS := fun D fr S => D.nx fr S
def wSeq (f g : WS) : WS := fun D fr S => f { D with nx := g D } fr S
def wRet (f : WE) : WS := fun D fr S => f fr S D.rt
def wDrop (f : WE) : WS := fun D fr S => f fr S fun _ S1 => D.nx fr S1
def wIfS (c : WT) (f g : WS) : WS := fun D fr S => c fr S fun b S1 => if b = true then f D fr S1 else g D fr S1
def wAsg (f : WE) (g : WG) : WS := fun D fr S => f fr S fun x S1 => g x fr S1 D.nx
section
variable {X : Cx} {st : Stmt} {rest : List Stmt} {f g : WS} {e : Expr} {fe : WE} {pos : Pos}
theorem jss_nil : JSs X [] wNext := ⟨pss_imp pss_nil fun D σ H ⟨ι, fr, S, P, hF, hS, h, l⟩ => l.nx ι H S fr σ .refl hS hF h⟩
theorem jss_cons (h1 : JS X st f) (h2 : JSs X rest g) : JSs X (st :: rest) (wSeq f g) := ⟨pss_imp (pss_cons h1.ps h2.pss) fun D σ H ⟨ι, fr, S, P, hF, hS, h, l⟩ => ⟨ι, fr, S, { P with nx := g P }, hF, hS, h,
  ⟨fun ι' H' S' fr' σ' f1 s1 F1 q => ⟨ι', fr', S', P, F1, s1, q, l.fut f1⟩, l.rt, l.bk, l.ct⟩⟩⟩
theorem jss_one (h1 : JS X st f) : JSs X [st] f := ⟨pss_one h1.ps⟩
theorem js_ret (he : JE X e fe) : JS X (.Return (some e) pos) (wRet fe) := ⟨ps_imp (ps_ret he.pe) fun D σ H ⟨ι, fr, S, P, hF, hS, h, l⟩ => ⟨ι, fr, S, P.rt, hF, hS, h, fun ι' H' S' p v f1 => l.rt ι' H' S' p v f1⟩⟩
theorem js_if {c : Expr} {a b : List Stmt} {gc : WT} (hc : JT X c gc) (ha : JSs X a f) (hb : JSs X b g) : JS X (.If c a b pos) (wIfS gc f g) := ⟨ps_imp (ps_if hc.pt ha.pss hb.pss) fun D σ H ⟨ι, fr, S, P, hF, hS, h, l⟩ =>
  ⟨ι, fr, S, _, hF, hS, h, fun ι1 H1 S1 b f1 s1 q => by
    cases b with
    | true => exact iteT ⟨ι1, fr, S1, P, hF.fut f1, s1, by simpa using q, l.fut f1⟩
    | false => exact iteF ⟨ι1, fr, S1, P, hF.fut f1, s1, by simpa using q, l.fut f1⟩⟩⟩
theorem js_asg {tg : Expr} {g : WG} (he : JE X e fe) (hg : JG X tg g) (hs : swapsWithSole [tg] e pos.line X.env = pure false := by rfl) (hw : swappedStores [tg] e X.env = pure none := by rfl)
    (h1 : (assignEach [tg] X.env).map (·.2) = [assign tg X.env] := by rfl) : JS X (.Assign [tg] e pos) (wAsg fe g) := ⟨ps_imp (ps_asg he.pe hg.pg hs hw h1) fun D σ H ⟨ι, fr, S, P, hF, hS, h, l⟩ =>
  ⟨ι, fr, S, _, hF, hS, h, fun ι1 H1 S1 p v f1 s1 r1 q => ⟨ι1, fr, S1, p, P.nx, hF.fut f1, s1, r1, q, fun ι' H' S' fr' σ' f2 => l.nx ι' H' S' fr' σ' (f1.trans f2)⟩⟩⟩
/-- name = value -/
theorem js_set (i : Nat) {x : Str} {pos' : Pos} (hN : X.N.Nodup) (he : JE X e fe) (hi : X.N[i]? = some x := by rfl) (hx : Loc X.env.scope x := by first | exact Or.inl rfl | exact Or.inr rfl) (hs : swapsWith e (some (.Name x pos')) pos.line X.env = pure false := by rfl)
    (hf : X.fn x = true ∨ X.env.scope.names.lookup x = some .local := by first | exact .inl rfl | exact .inr rfl) : JS X (.Assign [.Name x pos'] e pos) (wAsg fe (pName i)) := ⟨ps_imp (ps_set hN hi hx he.pe hs hf) fun D σ H ⟨ι, fr, S, P, hF, hS, h, l⟩ =>
  ⟨ι, fr, S, _, hF, hS, h, fun ι1 H1 S1 p v f1 s1 r1 q => l.nx ι1 H1 S1 _ _ f1 s1 ((hF.fut f1).set i r1) q⟩⟩
end

/-! ### what is walked -/
inductive PIt where
  | lst (n : Nat) | its (xs : List PV)
abbrev WI := Fr → Sto → (PIt → Sto → Prop) → Prop
def RIt (K : PySem.W.Frag) (J : It) (ι : List Addr) (H : Hp) : PIt → Prop
  | .lst n => ∃ a, ι[n]? = some a ∧ J = Itl K a
  | .its xs => ∀ (ι' : List Addr) (H' : Hp), Fut K ι H ι' H' → ∀ i, (i < xs.length → J.go i H' ∧ ∀ x H2, J.yld i H' x H2 → ∃ p, xs[i]? = some p ∧ RV K ι' H2 p x ∧ Fut K ι' H' ι' H2 ∧ ∀ S, RS K ι' H' S → RS K ι' H2 S) ∧ (xs.length ≤ i → J.stop i H')
theorem RIt.fut {K : PySem.W.Frag} {J : It} {ι ι1 : List Addr} {H H1 : Hp} {p : PIt} (r : RIt K J ι H p) (f : Fut K ι H ι1 H1) : RIt K J ι1 H1 p := by
  cases p with
  | lst n => obtain ⟨a, h, e⟩ := r; exact ⟨a, f.pre n a h, e⟩
  | its xs => exact fun ι' H' g => r ι' H' (f.trans g)
def tI (K : PySem.W.Frag) (f : WI) : TI := fun σ H R => ∃ (ι : List Addr) (fr : Fr) (S : Sto) (Qp : PIt → Sto → Prop), RF K ι H fr σ ∧ RS K ι H S ∧ f fr S Qp ∧
  ∀ (ι' : List Addr) (H' : Hp) (S' : Sto) (p : PIt) (J : It), Fut K ι H ι' H' → RS K ι' H' S' → RIt K J ι' H' p → Qp p S' → R J H'
structure JI (X : Cx) (tg iter : Expr) (f : WI) : Prop where
  pi : PI X tg iter (tI X.K f)
theorem pi_imp {X : Cx} {tg e : Expr} {t t' : TI} (h : PI X tg e t) (i : ∀ σ H Q, t' σ H Q → t σ H Q) : PI X tg e t' := fun pins s σ H Q I q => h pins s σ H Q I (i σ H Q q)
/-- a list or a tuple -/
def iSeq (K : PySem.W.Frag) (tl : TE) : TI := fun σ H R => tl σ H fun x H1 => (∃ a, x = .ref a ∧ (∃ xs, SqL K H1 a xs) ∧ R (Itl K a) H1) ∨ ∃ a, x = .ref a ∧ (∃ xs, SqT K H1 a xs) ∧ R (Itt K a) H1
theorem pi_seq {X : Cx} {tg l : Expr} {tl : TE} (hl : PE X l tl) : PI X tg l (iSeq X.K tl) := by
  intro pins s σ H R I h
  refine thn (hl pins s σ H _ I h) fun v s1 ⟨x, H1, I1, r1, q1⟩ => ?_
  rcases q1 with ⟨a, e, ⟨xs, hq⟩, q⟩ | ⟨a, e, ⟨xs, hq⟩, q⟩
  · subst e
    cases r1
    obtain ⟨its, rv, p, hz⟩ := I1.list hq
    refine wpAny_pyIter_list p.isList ?_
    refine ⟨s1.heap.objs.size, [s1.heap.objs.size], _, _, H1, rfl, I1.kept (t' := s1.toks) fun b o e => Heap.get?_push_of_some _ e, turn_list a _, ⟨_, Heap.get?_push_size _ rfl, rfl, rfl⟩, fun b hb => ?_, q⟩
    have e : b = s1.heap.objs.size := by simpa using hb
    subst e
    exact I1.fpOk (Nat.le_refl _) (I1.hok.fresh (Nat.le_refl _))
  · subst e
    cases r1
    obtain ⟨its, rv, p, hz⟩ := I1.tuple hq
    refine wpAny_pyIter_tuple (show s1.heap.IsTuple a its.toArray from p) ?_
    refine ⟨s1.heap.objs.size, [s1.heap.objs.size], _, _, H1, rfl, I1.kept (t' := s1.toks) fun b o e => Heap.get?_push_of_some _ e, turn_tuple a _, ⟨_, Heap.get?_push_size _ rfl, rfl, rfl⟩, fun b hb => ?_, q⟩
    have e : b = s1.heap.objs.size := by simpa using hb
    subst e
    exact I1.fpOk (Nat.le_refl _) (I1.hok.fresh (Nat.le_refl _))
def wISeq (f : WE) : WI := fun fr S Q => f fr S fun x S1 => match x with
  | .tup xs => Q (.its xs) S1
  | .ref n => (∃ xs, SL S1 n xs) ∧ Q (.lst n) S1
  | _ => False
theorem rit_tup {K : PySem.W.Frag} {ι : List Addr} {H : Hp} {a : Addr} {xs : List PV} {vs : List V} (ha : SqT K H a vs) (ra : RVs K ι H xs vs) : RIt K (Itt K a) ι H (.its xs) := fun ι' H' f i => by
  refine ⟨fun hi => ⟨?_, fun x H2 y => ?_⟩, fun hi => ⟨vs, f.tup a vs ha, by rw [← ra.length]; exact hi⟩⟩
  · have hl : i < vs.length := by rw [← ra.length]; exact hi
    exact ⟨vs, vs[i], f.tup a vs ha, by simp [hl]⟩
  · obtain ⟨e, y⟩ := y
    subst e
    obtain ⟨p, h1, h2⟩ := ra.get' (y vs (f.tup a vs ha))
    exact ⟨p, h1, h2.fut f, .refl, fun S s => s⟩
theorem ji_seq {X : Cx} {tg l : Expr} {fl : WE} (hl : JE X l fl) : JI X tg l (wISeq fl) := ⟨pi_imp (pi_seq hl.pe) fun σ H R ⟨ι, fr, S, Qp, hF, hS, hf, k⟩ => ⟨ι, fr, S, _, hF, hS, hf, fun ι1 H1 S1 x v f1 s1 r1 q => by
  cases r1 with
  | tup ha ra => exact .inr ⟨_, rfl, ⟨_, ha⟩, k ι1 H1 S1 _ _ f1 s1 (rit_tup ha ra) q⟩
  | ref ha =>
    obtain ⟨⟨xs, hx⟩, q⟩ := q
    obtain ⟨vs, h1, _⟩ := s1.sl ha hx
    exact .inl ⟨_, rfl, ⟨vs, h1⟩, k ι1 H1 S1 (.lst _) _ f1 s1 ⟨_, ha, rfl⟩ q⟩
  | _ => exact q.elim⟩⟩
/-- range -/
def rangeP (lo : Int) (n : Nat) : List PV := (List.range n).map fun i => .int (lo + (i : Nat))
theorem rangeP_length (lo : Int) (n : Nat) : (rangeP lo n).length = n := by unfold rangeP; rw [List.length_map, List.length_range]
theorem rangeP_get (lo : Int) {n i : Nat} (h : i < n) : (rangeP lo n)[i]? = some (.int (lo + (i : Nat))) := by
  unfold rangeP
  rw [List.getElem?_map, List.getElem?_range h]
  rfl
theorem rit_range {K : PySem.W.Frag} {ι : List Addr} {H : Hp} (lo : Int) (n : Nat) : RIt K (Itr lo n) ι H (.its (rangeP lo n)) := fun ι' H' f i => by
  rw [rangeP_length]
  refine ⟨fun hi => ⟨hi, fun x H2 y => ?_⟩, fun hi => hi⟩
  obtain ⟨e, rfl⟩ := y
  subst e
  exact ⟨_, rangeP_get lo hi, .int _, .refl, fun S s => s⟩
def InR (i : Int) : Prop := -(2 ^ 62) ≤ i ∧ i < 2 ^ 62
def wRange1 (g : WA) : WI := fun fr S Q => g fr S fun vs S1 => ∃ j, vs = [.int j] ∧ InR j ∧ Q (.its (rangeP 0 j.toNat)) S1
section
variable {X : Cx} {tg a b : Expr} {g : WA} {p pos : Pos}
theorem ji_range1 (hm : X.mg "range" = none) (ha : JA X [a] g) (hg : Gl X "range" := by rfl) (hs : starEach [a] X.env = [(false, eval a X.env)] := by rfl) : JI X tg (.Call (.Name "range" p) [a] [] pos) (wRange1 g) :=
  ⟨pi_imp (pi_range1 hg hm ha.pa hs) fun σ H R ⟨ι, fr, S, Qp, hF, hS, hf, k⟩ => ⟨ι, fr, S, _, hF, hS, hf, fun ι1 H1 S1 ps vs f1 s1 r1 ⟨j, e, hj, q⟩ => by
    subst e
    obtain ⟨v, rfl, r⟩ := r1.one
    cases r
    exact ⟨j, rfl, hj.1, hj.2, k ι1 H1 S1 _ _ f1 s1 (rit_range 0 _) q⟩⟩⟩
end

/-! ### for -/
def runIts (g : WG) (b : WS) : List PV → PD → Fr → Sto → Prop
  | [], D, fr, S => D.nx fr S
  | x :: r, D, fr, S => g x fr S fun fr1 S1 => b ⟨runIts g b r D, D.rt, D.nx, runIts g b r D⟩ fr1 S1
def runLst (g : WG) (b : WS) (n : Nat) (all : List PV) : List PV → PD → Fr → Sto → Prop
  | [], D, fr, S => SL S n all ∧ D.nx fr S
  | x :: r, D, fr, S => SL S n all ∧ g x fr S fun fr1 S1 => b ⟨runLst g b n all r D, D.rt, D.nx, runLst g b n all r D⟩ fr1 S1
def wFor (wi : WI) (g : WG) (b : WS) : WS := fun D fr S => wi fr S fun it S1 => match it with
  | .its xs => runIts g b xs D fr S1
  | .lst n => ∃ xs, SL S1 n xs ∧ runLst g b n xs xs D fr S1
theorem drop_cons {α : Type} {xs : List α} {i : Nat} {x : α} {r : List α} (h : xs.drop i = x :: r) : xs[i]? = some x ∧ xs.drop (i + 1) = r ∧ i < xs.length := by
  have hl : i < xs.length := by
    rcases Nat.lt_or_ge i xs.length with h1 | h1
    · exact h1
    · rw [List.drop_eq_nil_of_le h1] at h; cases h
  rw [List.drop_eq_getElem_cons hl] at h
  injection h with h1 h2
  exact ⟨by rw [List.getElem?_eq_getElem hl, h1], h2, hl⟩
theorem js_for {X : Cx} {tg iter : Expr} {body : List Stmt} {wi : WI} {g : WG} {b : WS} {pos : Pos} (hi : JI X tg iter wi) (hg : JG X tg g) (hb : JSs X body b) (hp : PassesOwn (model X.prog X.w) X.A X.env X.xe := by exact PassesOwn.never) (hc : X.calm = true := by rfl)
    (hs : ∀ x, foldedSetIterable iter X.env x = pure x := by intro _; rfl) : JS X (.For tg iter body [] pos) (wFor wi g b) :=
  ⟨ps_imp (ps_for hp hc hi.pi hg.pg hb.pss hs) fun D σ H ⟨ι, fr, S, P, hF, hS, h, l⟩ => ⟨ι, fr, S, _, hF, hS, h, fun ι1 H1 S1 it J f1 s1 rj q => by
    cases it with
    | its xs =>
      refine ⟨fun i m σ' H' => ∃ ι' fr' S', Fut X.K ι1 H1 ι' H' ∧ RF X.K ι' H' fr' σ' ∧ RS X.K ι' H' S' ∧ m = xs.length - i ∧ runIts g b (xs.drop i) P fr' S', ⟨_, ι1, fr, S1, .refl, hF.fut f1, s1, rfl, q⟩, ?_⟩
      rintro i m σ' H' ⟨ι', fr', S', f2, F2, s2, rfl, q2⟩
      have rj2 := rj.fut f2 ι' H' .refl i
      cases hd : xs.drop i with
      | nil =>
        rw [hd] at q2
        have hl : xs.length ≤ i := by
          rcases Nat.lt_or_ge i xs.length with h1 | h1
          · rw [List.drop_eq_getElem_cons h1] at hd; cases hd
          · exact h1
        exact .inl ⟨rj2.2 hl, l.nx ι' H' S' fr' σ' (f1.trans f2) s2 F2 q2⟩
      | cons x r =>
        obtain ⟨hx, hr, hl⟩ := drop_cons hd
        rw [hd] at q2
        refine .inr ⟨(rj2.1 hl).1, fun σ3 H3 => ∃ ι3 fr3 S3, Fut X.K ι1 H1 ι3 H3 ∧ RF X.K ι3 H3 fr3 σ3 ∧ RS X.K ι3 H3 S3 ∧ runIts g b r P fr3 S3, ?_, ?_⟩
        · rintro σ3 H3 ⟨ι3, fr3, S3, f3, F3, s3, q3⟩
          exact ⟨xs.length - (i + 1), by omega, ι3, fr3, S3, f3, F3, s3, rfl, by rw [hr]; exact q3⟩
        · intro y H3 hy
          obtain ⟨p, hp, rp, f3, ks⟩ := (rj2.1 hl).2 y H3 hy
          rw [hx] at hp
          cases hp
          refine ⟨ι', fr', S', x, _, F2.fut f3, ks S' s2, rp, q2, fun ι4 H4 S4 fr4 σ4 f4 s4 F4 q4 => ?_⟩
          have f14 : Fut X.K ι1 H1 ι4 H4 := (f2.trans f3).trans f4
          refine ⟨ι4, fr4, S4, _, F4, s4, q4, ?_, ?_, ?_, ?_⟩
          · exact fun ι5 H5 S5 fr5 σ5 f5 s5 F5 q5 => ⟨ι5, fr5, S5, f14.trans f5, F5, s5, q5⟩
          · exact fun ι5 H5 S5 p5 v5 f5 s5 r5 q5 => l.rt ι5 H5 S5 p5 v5 ((f1.trans f14).trans f5) s5 r5 q5
          · exact fun ι5 H5 S5 fr5 σ5 f5 s5 F5 q5 => l.nx ι5 H5 S5 fr5 σ5 ((f1.trans f14).trans f5) s5 F5 q5
          · exact fun ι5 H5 S5 fr5 σ5 f5 s5 F5 q5 => ⟨ι5, fr5, S5, f14.trans f5, F5, s5, q5⟩
    | lst n =>
      obtain ⟨a, ha, rfl⟩ := rj
      obtain ⟨xs, hx0, q⟩ := q
      refine ⟨fun i m σ' H' => ∃ ι' fr' S', Fut X.K ι1 H1 ι' H' ∧ RF X.K ι' H' fr' σ' ∧ RS X.K ι' H' S' ∧ m = xs.length - i ∧ runLst g b n xs (xs.drop i) P fr' S', ⟨_, ι1, fr, S1, .refl, hF.fut f1, s1, rfl, q⟩, ?_⟩
      rintro i m σ' H' ⟨ι', fr', S', f2, F2, s2, rfl, q2⟩
      have ha2 := f2.pre n a ha
      cases hd : xs.drop i with
      | nil =>
        rw [hd] at q2
        have hl : xs.length ≤ i := by
          rcases Nat.lt_or_ge i xs.length with h1 | h1
          · rw [List.drop_eq_getElem_cons h1] at hd; cases hd
          · exact h1
        obtain ⟨vs, h1, h2⟩ := s2.sl ha2 q2.1
        exact .inl ⟨⟨vs, h1, by rw [← h2.length]; exact hl⟩, l.nx ι' H' S' fr' σ' (f1.trans f2) s2 F2 q2.2⟩
      | cons x r =>
        obtain ⟨hx, hr, hl⟩ := drop_cons hd
        rw [hd] at q2
        obtain ⟨vs, h1, h2⟩ := s2.sl ha2 q2.1
        obtain ⟨v, e1, rv⟩ := h2.get hx
        refine .inr ⟨⟨vs, v, h1, e1⟩, fun σ3 H3 => ∃ ι3 fr3 S3, Fut X.K ι1 H1 ι3 H3 ∧ RF X.K ι3 H3 fr3 σ3 ∧ RS X.K ι3 H3 S3 ∧ runLst g b n xs r P fr3 S3, ?_, ?_⟩
        · rintro σ3 H3 ⟨ι3, fr3, S3, f3, F3, s3, q3⟩
          exact ⟨xs.length - (i + 1), by omega, ι3, fr3, S3, f3, F3, s3, rfl, by rw [hr]; exact q3⟩
        · intro y H3 hy
          obtain ⟨e, hy⟩ := hy
          subst e
          have e2 := hy vs h1
          rw [e1] at e2
          cases e2
          refine ⟨ι', fr', S', x, _, F2, s2, rv, q2.2, fun ι4 H4 S4 fr4 σ4 f4 s4 F4 q4 => ?_⟩
          have f14 : Fut X.K ι1 H1 ι4 H4 := f2.trans f4
          refine ⟨ι4, fr4, S4, _, F4, s4, q4, ?_, ?_, ?_, ?_⟩
          · exact fun ι5 H5 S5 fr5 σ5 f5 s5 F5 q5 => ⟨ι5, fr5, S5, f14.trans f5, F5, s5, q5⟩
          · exact fun ι5 H5 S5 p5 v5 f5 s5 r5 q5 => l.rt ι5 H5 S5 p5 v5 ((f1.trans f14).trans f5) s5 r5 q5
          · exact fun ι5 H5 S5 fr5 σ5 f5 s5 F5 q5 => l.nx ι5 H5 S5 fr5 σ5 ((f1.trans f14).trans f5) s5 F5 q5
          · exact fun ι5 H5 S5 fr5 σ5 f5 s5 F5 q5 => ⟨ι5, fr5, S5, f14.trans f5, F5, s5, q5⟩⟩⟩
end M

namespace M
open PySem PySem.Spec PyProof.Rows L2
variable [Tabs]

theorem upd_self {H : Hp} {a : Addr} {o : HO} (h : H a = some o) : upd H a o = H := by
  funext b
  by_cases e : b = a
  · subst e; rw [upd_same, h]
  · rw [upd_ne e]
/-- a thing laid aside changes -/
theorem fut_side {K : PySem.W.Frag} {ι1 ι : List Addr} {H1 H : Hp} {D : Addr} {u o : HO} (f : Fut K ι1 H1 ι H) (h1 : H1 D = none) (h : H D = some u) (hu : HidO u) : Fut K ι1 H1 ι (upd H D o) :=
  ⟨f.pre, fun a xs z => sqT_upd h hu a xs (f.tup a xs z), fun a w z z1 z2 => ⟨(f.hid a w z z1 z2).1, by rw [upd_ne (ne_of_none z2 h1)]; exact (f.hid a w z z1 z2).2⟩⟩
theorem RS.side {K : PySem.W.Frag} {ι : List Addr} {H : Hp} {S : Sto} {D : Addr} {u o : HO} (r : RS K ι H S) (hD : D ∉ ι) (h : H D = some u) (hu : HidO u) (hx : ∀ ws, u ≠ .xd ws) (hsi : Tabs.since K ι (L2.upd H D o)) : RS K ι (L2.upd H D o) S := ⟨r.len, r.nd, fun n m e => by
  obtain ⟨b, h1, h2⟩ := r.obj n m e
  have hb : b ≠ D := fun z => hD (z ▸ List.mem_of_getElem? h1)
  exact ⟨b, h1, RO.mv (fun _ _ z => z) (sqT_upd h hu) (fun d ws z1 z2 => ⟨z1, by rw [upd_ne (ne_of z2 h (fun z => hx ws z.symm))]; exact z2⟩) (upd_ne hb) h2⟩, fun P hP => let ⟨ps, e, t⟩ := r.tab P hP; ⟨ps, by rw [upd_ne (ne_of e h (by rintro rfl; exact hu))]; exact e, t⟩, hsi⟩
theorem RVs.side {K : PySem.W.Frag} {ι : List Addr} {H : Hp} {D : Addr} {u o : HO} {ps : List PV} {vs : List V} (r : RVs K ι H ps vs) (h : H D = some u) (hu : HidO u) : RVs K ι (upd H D o) ps vs := RVs.mv (fun _ _ z => z) (sqT_upd h hu) r
/-- the end of a comprehension: the list comes into the store -/
theorem lc_end {K : PySem.W.Frag} {ι1 ι : List Addr} {H1 H : Hp} {S : Sto} {D : Addr} {ps : List PV} {vs : List V} {Qp : Post} {Q : VK} (f : Fut K ι1 H1 ι H) (h1 : H1 D = none) (hD : D ∉ ι) (h : H D = some (.lst vs)) (r : RVs K ι H ps vs) (s : RS K ι H S) (hsi : Tabs.since K ι1 H1)
    (k : ∀ ι' H' S' p v, Fut K ι1 H1 ι' H' → RS K ι' H' S' → RV K ι' H' p v → Qp p S' → Q v H') (q : Qp (.ref S.length) (S ++ [.lst ps])) : Q (.ref D) H := by
  have pre : ∀ (n : Nat) (b : Addr), ι[n]? = some b → (ι ++ [D])[n]? = some b := fun n b h => by rw [List.getElem?_append_left (List.getElem?_eq_some_iff.mp h).1]; exact h
  have nt := sqT_upd (K := K) (o := .lst vs) h True.intro
  suffices gf : Fut K ι1 H1 (ι ++ [D]) H from by
    have s' := s.take_in (m := .lst ps) hD ⟨vs, upd_same, r.mv pre nt⟩ nt (by rw [h]; intro _ z; cases z) (by rw [h]; intro _ z; cases z) (by rw [upd_self h]; exact Tabs.mono hsi gf)
    rw [upd_self h] at s'
    exact k (ι ++ [D]) H _ (.ref S.length) _ gf s' (.ref (s.last D)) q
  exact ⟨fun n a z => pre n a (f.pre n a z), f.tup, fun a o z z1 z2 => ⟨by
    simp only [List.mem_append, List.mem_singleton, not_or]
    exact ⟨(f.hid a o z z1 z2).1, ne_of_none z2 h1⟩, (f.hid a o z z1 z2).2⟩⟩

/-! ### comprehensions, one name -/
def wYes : WT := fun _ S Q => Q true S
structure JTs (X : Cx) (ifs : List Expr) (f : WT) : Prop where
  pts : PTs X ifs (tT X.K f)
theorem pts_imp {X : Cx} {e : List Expr} {t t' : TT} (h : PTs X e t) (i : ∀ σ H Q, t' σ H Q → t σ H Q) : PTs X e t' := fun pins s σ H Q I q => h pins s σ H Q I (i σ H Q q)
theorem jts_nil {X : Cx} : JTs X [] wYes := ⟨pts_imp pts_nil fun σ H Q ⟨ι, fr, S, Qp, hF, hS, hf, k⟩ => k ι H S true .refl hS hf⟩
theorem jts_one {X : Cx} {c : Expr} {f : WT} (h : JT X c f) : JTs X [c] f := ⟨pts_one h.pt⟩
def runLc (C : Sto → Prop) (i : Nat) (t : WT) (e : WE) : List PV → Fr → Sto → List PV → (List PV → Sto → Prop) → Prop
  | [], _, S, acc, Q => C S ∧ Q acc S
  | x :: r, fr, S, acc, Q => C S ∧ t (fr.set i (some x)) S fun b S1 => if b = true then e (fr.set i (some x)) S1 fun y S2 => acc.length < sizeLine ∧ runLc C i t e r fr S2 (acc ++ [y]) Q else runLc C i t e r fr S1 acc Q
def wLc (i : Nat) (wi : WI) (t : WT) (e : WE) : WE := fun fr S Q => wi fr S fun it S1 => match it with
  | .its xs => runLc (fun _ => True) i t e xs (fr.set i none) S1 [] fun ys S2 => Q (.ref S2.length) (S2 ++ [MO.lst ys])
  | .lst n => ∃ xs, SL S1 n xs ∧ runLc (fun S => SL S n xs) i t e xs (fr.set i none) S1 [] fun ys S2 => Q (.ref S2.length) (S2 ++ [MO.lst ys])
theorem RF.none {K : PySem.W.Frag} {ι : List Addr} {H : Hp} {fr : Fr} {σ : L2.St} (r : RF K ι H fr σ) (i : Nat) : RF K ι H (fr.set i .none) (σ.set i .none) where
  len := by rw [List.length_set, List.length_set, r.len]
  at_ := fun j q e => by
    by_cases h : i = j
    · subst h
      by_cases hl : i < fr.length
      · rw [List.getElem?_set_self hl] at e
        cases e
      · rw [List.getElem?_eq_none (by rw [List.length_set]; omega)] at e
        cases e
    · rw [List.getElem?_set_ne h] at e
      obtain ⟨w, h1, h2⟩ := r.at_ j q e
      exact ⟨w, by rw [List.getElem?_set_ne h]; exact h1, h2⟩
theorem tLc_of {K : PySem.W.Frag} {i : Nat} {wi : WI} {t : WT} {e : WE} : ∀ σ H Q, tE K (wLc i wi t e) σ H Q → tLc (tI K wi) (gName i) (tT K t) (tE K e) [i] σ H Q :=
  fun σ H Q ⟨ι, fr, S, Qp, hF, hS, h, k⟩ => ⟨ι, fr, S, _, hF, hS, h, fun ι1 H1 S1 it J f1 s1 rj q => fun D hD => by
    have wp : ∀ σ2 : L2.St, wipe σ2 [i] = σ2.set i none := fun _ => rfl
    -- a walk over xs, whose turns read as J's, C said of each state
    have main : ∀ (C : Sto → Prop) (xs : List PV), (∀ ι' H' S' j, Fut K ι1 H1 ι' H' → RS K ι' H' S' → C S' → (j < xs.length → J.go j H' ∧ ∀ x H2, J.yld j H' x H2 → ∃ p, xs[j]? = some p ∧ RV K ι' H2 p x ∧ Fut K ι' H' ι' H2 ∧ ∀ S, RS K ι' H' S → RS K ι' H2 S) ∧ (xs.length ≤ j → J.stop j H')) →
        runLc C i t e xs (fr.set i none) S1 [] (fun ys S2 => Qp (.ref S2.length) (S2 ++ [MO.lst ys])) →
        ∃ W : Nat → Nat → Hp → Prop, (∃ m, W 0 m (upd H1 D (.lst []))) ∧ ∀ j m H, W j m H → (J.stop j H ∧ Q (.ref D) H) ∨ (J.go j H ∧ ∃ Nx : Hp → Prop, (∀ H', Nx H' → ∃ m', m' < m ∧ W (j + 1) m' H') ∧ ∀ x H', J.yld j H x H' → gName i x (wipe σ [i]) H' fun σ2 H2 => wipe σ2 [i] = wipe σ [i] ∧ tT K t σ2 H2 fun b H3 =>
          if b = true then tE K e σ2 H3 fun y H4 => ∃ acc, H4 D = some (.lst acc) ∧ acc.length < sizeLine ∧ Nx (upd H4 D (.lst (acc ++ [y]))) else Nx H3) := by
      intro C xs hw q0
      have hFw : RF K ι1 H1 (fr.set i none) (σ.set i none) := (hF.fut f1).none i
      refine ⟨fun j m H' => ∃ ι' S' ps vs, Fut K ι1 H1 ι' H' ∧ D ∉ ι' ∧ H' D = some (.lst vs) ∧ RVs K ι' H' ps vs ∧ RS K ι' H' S' ∧ m = xs.length - j ∧ runLc C i t e (xs.drop j) (fr.set i none) S' ps (fun ys S2 => Qp (.ref S2.length) (S2 ++ [MO.lst ys])),
        ⟨_, ι1, S1, [], [], fut_new hD, s1.fresh hD, upd_same, .nil, s1.new hD, rfl, q0⟩, ?_⟩
      rintro j m H' ⟨ι', S', ps, vs, f2, hD2, hv, rv, s2, rfl, q2⟩
      cases hd : xs.drop j with
      | nil =>
        rw [hd] at q2
        have hl : xs.length ≤ j := by
          rcases Nat.lt_or_ge j xs.length with h1 | h1
          · rw [List.drop_eq_getElem_cons h1] at hd; cases hd
          · exact h1
        exact .inl ⟨(hw ι' H' S' j f2 s2 q2.1).2 hl, lc_end f2 hD hD2 hv rv s2 s1.si (fun ι' H' S' p v f3 => k ι' H' S' p v (f1.trans f3)) q2.2⟩
      | cons x r =>
        obtain ⟨hx, hr, hl⟩ := drop_cons hd
        rw [hd] at q2
        obtain ⟨hgo, hyl⟩ := (hw ι' H' S' j f2 s2 q2.1).1 hl
        refine .inr ⟨hgo, fun H3 => ∃ ι3 S3 ps3 vs3, Fut K ι1 H1 ι3 H3 ∧ D ∉ ι3 ∧ H3 D = some (.lst vs3) ∧ RVs K ι3 H3 ps3 vs3 ∧ RS K ι3 H3 S3 ∧ runLc C i t e r (fr.set i none) S3 ps3 (fun ys S2 => Qp (.ref S2.length) (S2 ++ [MO.lst ys])), ?_, ?_⟩
        · rintro H3 ⟨ι3, S3, ps3, vs3, a1, a2, a3, a4, a5, a6⟩
          exact ⟨xs.length - (j + 1), by omega, ι3, S3, ps3, vs3, a1, a2, a3, a4, a5, rfl, by rw [hr]; exact a6⟩
        · intro y H3 hy
          obtain ⟨p, hp, rp, f3, ks⟩ := hyl y H3 hy
          rw [hx] at hp
          cases hp
          have f13 : Fut K ι1 H1 ι' H3 := f2.trans f3
          have F3 : RF K ι' H3 ((fr.set i none).set i (some x)) ((σ.set i none).set i (some y)) := (hFw.fut f13).set i rp
          show wipe ((σ.set i none).set i (some y)) [i] = wipe σ [i] ∧ _
          refine ⟨by rw [wp, wp, List.set_set, List.set_set], ?_⟩
          obtain ⟨hD3, hv3⟩ := f3.hid D (.lst vs) True.intro hD2 hv
          refine ⟨ι', _, S', _, F3, ks S' s2, q2.2, fun ι4 H4 S4 b f4 s4 q4 => ?_⟩
          obtain ⟨hD4, hv4⟩ := f4.hid D (.lst vs) True.intro hD3 hv3
          cases b with
          | false => exact iteF ⟨ι4, S4, ps, vs, f13.trans f4, hD4, hv4, rv.fut (f3.trans f4), s4, by simpa using q4⟩
          | true =>
            refine iteT ⟨ι4, _, S4, _, F3.fut f4, s4, (by simpa using q4), fun ι5 H5 S5 p5 v5 f5 s5 r5 q5 => ?_⟩
            obtain ⟨hD5, hv5⟩ := f5.hid D (.lst vs) True.intro hD4 hv4
            have r5' := rv.fut ((f3.trans f4).trans f5)
            refine ⟨vs, hv5, by rw [← rv.length]; exact q5.1, ι5, S5, ps ++ [p5], vs ++ [v5], fut_side ((f13.trans f4).trans f5) hD hv5 True.intro, hD5, upd_same, (r5'.append (.cons r5 .nil)).side hv5 True.intro, s5.side hD5 hv5 True.intro (by intro _ z; cases z) (Tabs.mono s1.si (fut_side ((f13.trans f4).trans f5) hD hv5 True.intro)), q5.2⟩
    cases it with
    | its xs => exact main (fun _ => True) xs (fun ι' H' S' j f2 s2 _ => rj.fut f2 ι' H' .refl j) q
    | lst n =>
      obtain ⟨a, ha, rfl⟩ := rj
      obtain ⟨xs, hx0, q⟩ := q
      refine main (fun S => SL S n xs) xs (fun ι' H' S' j f2 s2 hc => ?_) q
      have ha2 := f2.pre n a ha
      obtain ⟨vs, h1, h2⟩ := s2.sl ha2 hc
      refine ⟨fun hj => ⟨?_, fun x H2 hy => ?_⟩, fun hj => ⟨vs, h1, by rw [← h2.length]; exact hj⟩⟩
      · have hl : j < vs.length := by rw [← h2.length]; exact hj
        exact ⟨vs, vs[j], h1, by simp [hl]⟩
      · obtain ⟨e, hy⟩ := hy
        subst e
        obtain ⟨p, e1, rv⟩ := h2.get' (hy vs h1)
        exact ⟨p, e1, rv, .refl, fun S s => s⟩⟩
/-- a name of the block's own: plain or kept for a block within -/
def OwnK (scope : Scope) (x : Str) : Prop := scope.names.lookup x = some .local ∨ scope.names.lookup x = some .cell
theorem lookup_relabel_cell {env : Env} : ∀ {names : List (Str × NameKind)} {x : Str}, names.lookup x = some .cell →
    (names.map fun (n, k) => if (k == NameKind.free && env.scope.kind == .function && env.kindOf n == some .cell) then (n, NameKind.cell) else (n, k)).lookup x = some .cell
  | [], _, h => by simp at h
  | (n, k) :: r, x, h => by
    have ih := @lookup_relabel_cell env r x
    show List.lookup x ((if (k == NameKind.free && env.scope.kind == .function && env.kindOf n == some .cell) = true then (n, NameKind.cell) else (n, k)) :: _) = _
    rw [List.lookup_cons] at h
    by_cases e : x = n
    · subst e
      rw [beq_self_eq_true] at h
      cases h
      rw [if_neg (by simp), List.lookup_cons, beq_self_eq_true]
    · have hb : (x == n) = false := by simpa using e
      rw [hb] at h
      by_cases hc : (k == NameKind.free && env.scope.kind == .function && env.kindOf n == some .cell) = true
      · rw [if_pos hc, List.lookup_cons, hb]; exact ih h
      · rw [if_neg hc, List.lookup_cons, hb]; exact ih h
theorem pg_own {X : Cx} {s : Shared} {H : Hp} {C : Addr} {cl : List (Str × Addr)} {fp : List Addr} {scope : Scope} {pos : Pos} {i : Nat} {x : Str} (hN : X.N.Nodup) (hi : X.N[i]? = some x) (hx : OwnK scope x) : PG (X.blk s H scope (compEnvC scope cl C X.env) fp) (.Name x pos) (gName i) := by
  rcases hx with hx | hx
  · exact pg_name (i := i) hN hi (.inl (lookup_relabel_local (env := X.env) hx)) (.inr (lookup_relabel_local (env := X.env) hx))
  · exact pg_name (i := i) hN hi (.inr (lookup_relabel_cell (env := X.env) hx)) (.inl (by show (scope.names.lookup x == some .cell) = true; rw [hx]; rfl))
section
variable {X : Cx} {elt iter : Expr} {ifs : List Expr} {scope : Scope} {x : Str} {pos px : Pos} {wi : WI} {t : WT} {e : WE}
theorem j_lc (i : Nat) (hN : X.N.Nodup) (hi : JI X (.Name x px) iter wi) (ok : blkC X.N X.env.scope scope [(x, i)] = true)
    (ht : ∀ (s : Shared) (H : Hp) (C : Addr) (cl : List (Str × Addr)) (fp : List Addr), JTs (X.blk s H scope (compEnvC scope cl C X.env) fp) ifs t)
    (he : ∀ (s : Shared) (H : Hp) (C : Addr) (cl : List (Str × Addr)) (fp : List Addr), JE (X.blk s H scope (compEnvC scope cl C X.env) fp) elt e)
    (hx : OwnK scope x := by first | exact Or.inl rfl | exact Or.inr rfl) (hc : X.calm = true := by rfl) (hs : ∀ x, foldedSetIterable iter X.env x = pure x := by intro _; rfl) : JE X (.ListComp elt [⟨.Name x px, iter, ifs, 0⟩] scope pos) (wLc i wi t e) :=
  ⟨pe_imp (pe_lc (own := [(x, i)]) hc hN hi.pi (blkOk_by ok) (fun s H C cl fp => pg_own hN ((blkOk_by ok).ix (x, i) List.mem_cons_self) hx) (fun s H C cl fp => (ht s H C cl fp).pts) (fun s H C cl fp => (he s H C cl fp).pe) hs) tLc_of⟩
theorem js_setLc (n i : Nat) {y : Str} {py spos : Pos} (hN : X.N.Nodup) (hi : JI X (.Name x px) iter wi) (ok : blkC X.N X.env.scope scope [(x, i)] = true)
    (ht : ∀ (s : Shared) (H : Hp) (C : Addr) (cl : List (Str × Addr)) (fp : List Addr), JTs (X.blk s H scope (compEnvC scope cl C X.env) fp) ifs t)
    (he : ∀ (s : Shared) (H : Hp) (C : Addr) (cl : List (Str × Addr)) (fp : List Addr), JE (X.blk s H scope (compEnvC scope cl C X.env) fp) elt e)
    (hsw : swapsWith (.ListComp elt [⟨.Name x px, iter, ifs, 0⟩] scope pos) (some (.Name y py)) spos.line X.env = pure true) (hy : X.N[n]? = some y := by rfl) (hyl : X.env.scope.names.lookup y = some .local := by rfl)
    (hx : OwnK scope x := by first | exact Or.inl rfl | exact Or.inr rfl) (hc : X.calm = true := by rfl) (hs : ∀ x, foldedSetIterable iter X.env x = pure x := by intro _; rfl) : JS X (.Assign [.Name y py] (.ListComp elt [⟨.Name x px, iter, ifs, 0⟩] scope pos) spos) (wAsg (wLc i wi t e) (pName n)) :=
  ⟨ps_imp (ps_setLc (own := [(x, i)]) hc hN hy hyl hsw hi.pi (blkOk_by ok) (fun s H C cl fp => pg_own hN ((blkOk_by ok).ix (x, i) List.mem_cons_self) hx) (fun s H C cl fp => (ht s H C cl fp).pts) (fun s H C cl fp => (he s H C cl fp).pe) hs)
    fun D σ H ⟨ι, fr, S, P, hF, hS, h, l⟩ => tLc_of σ H _ ⟨ι, fr, S, _, hF, hS, h, fun ι1 H1 S1 p v f1 s1 r1 q => l.nx ι1 H1 S1 _ _ f1 s1 ((hF.fut f1).set n r1) q⟩⟩
end

/-! ### a def keeps what it promises -/
def startP (N : List Str) (ps : List PV) : Fr := ps.map some ++ List.replicate (N.length - ps.length) none
theorem RVs.start {K : PySem.W.Frag} {ι : List Addr} {H : Hp} : ∀ {ps : List PV} {vs : List V} (n : Nat), RVs K ι H ps vs → RF K ι H (ps.map some ++ List.replicate n none) (vs.map some ++ List.replicate n none) := fun {ps vs} n r => ⟨by simp [r.length], fun i p e => by
  by_cases hi : i < ps.length
  · rw [List.getElem?_append_left (by rw [List.length_map]; exact hi), List.getElem?_map] at e
    cases hp : ps[i]? with
    | none => rw [hp] at e; cases e
    | some q =>
      rw [hp] at e
      cases e
      obtain ⟨v, h1, h2⟩ := r.get hp
      refine ⟨v, ?_, h2⟩
      rw [List.getElem?_append_left (by rw [List.length_map, ← r.length]; exact hi), List.getElem?_map, h1]
      rfl
  · rw [List.getElem?_append_right (by rw [List.length_map]; omega), List.getElem?_replicate] at e
    split at e
    · cases e
    · cases e⟩
theorem def_ok {P : Program} {w : World} {K : PySem.W.Frag} {mg : Str → Option Value} {base : Heap} {x qual : Str} {st : Stmt} {f : Addr} {fd : FuncData} {N ps : List Str} {k : Nat} {sp : PSp} (F : Fun K x qual st f fd) (S : FnScope N ps (defScope st))
    (len : ∀ vs S Q, sp vs S Q → vs.length = ps.length)
    (hbody : ∃ ws : WS, (∀ (cdv : Value) (A : Around) (outer : List Env) (s : Shared) (H : Hp) (E : XK), Room k (A.deeper (envOfC qual (defScope st) s.heap.objs.size f cdv)) →
      JSs (cxOf CX0 P w K mg base N qual (defScope st) f cdv A outer s H E).nox (defBody st) ws) ∧ ∀ vs S Q, sp vs S Q → ws { nx := fun _ S' => Q .non S', rt := Q } (startP N vs) S) : FnOk P w K mg base CX0 (k + 1) f fd ps (liftSp K sp) := by
  obtain ⟨ws, hj, hr⟩ := hbody
  refine F.ok S (fun vs H Q E ⟨ι, S0, qs, Qp, _, rv, h, _⟩ => by rw [← rv.length]; exact len qs S0 Qp h) fun cdv A outer s H vs Q E hroom ⟨ι, S0, qs, Qp, hS, rv, h, kk⟩ => ⟨_, (hj cdv A outer s H E hroom).pss, ?_⟩
  have hF : RF K ι H (startP N qs) (L2.start N vs) := by
    unfold startP L2.start
    rw [rv.length]
    exact rv.start _
  exact ⟨ι, startP N qs, S0, _, hF, hS, hr qs S0 Qp h, ⟨fun ι' H' S' fr' σ' f1 s1 _ q => kk ι' H' S' .non .non f1 s1 .non q, fun ι' H' S' p v f1 s1 r q => kk ι' H' S' p v f1 s1 r q, fun _ _ _ _ _ _ _ _ z => z.elim, fun _ _ _ _ _ _ _ _ z => z.elim⟩⟩
theorem fn_mk {P : Program} {w : World} {K : PySem.W.Frag} {mg : Str → Option Value} {base : Heap} {x : Str} {f : Addr} {fd : FuncData} {ps : List Str} {k : Nat} {sp : PSp} (h : FnOk P w K mg base CX0 k f fd ps (liftSp K sp)) (hm : mg x = some (.ref f)) (hk : PySem.W.keepIn K (.ref f) = true) (hb : Binds K fd ps []) :
    Fn P w K mg base k x sp := ⟨f, fd, ps, h, hm, hk, hb⟩
/-- the law itself: its list of ints lies in the store, or among the module's own objects -/
def spLaw : PSp := fun vs S Q => ∃ ns : List Int, ns.length ≤ 63 ∧ ((vs = [.ref 0] ∧ S = [.ro (ns.map PV.int)]) ∨ (vs = [.kls (ns.map PV.int)] ∧ S = [])) ∧ ∀ S', Q (.bl true) S'
/-- nothing is tracked but the script and the tables -/
def OnlyT (H : Hp) : Prop := ∀ b, H b = none ∨ (∃ o xs, H b = some (.frz o (.lst xs))) ∨ (Tabs.T b ∧ H b = some (.tbl #[]))
def TabsIn (H : Hp) : Prop := ∀ P, Tabs.T P → ∃ ps : Array Value, H P = some (.tbl ps) ∧ TriplesOk ps.toList
theorem law_sp {K : PySem.W.Frag} {H : Hp} {a : Addr} {ns : List Int} {E : XK} (hl : ns.length ≤ 63) (hO : OnlyT H) (hT : TabsIn H) (hS : SqL K H a (ns.map V.int)) (hsi : ∀ ι H, Tabs.since K ι H) : liftSp K spLaw [.ref a] H (fun v _ => v = .bl true) E := by
  rcases hS with (h | ⟨o, h⟩) | h
  · rcases hO a with z | ⟨o, xs, z⟩ | ⟨_, z⟩
    · rw [h] at z; cases z
    · rw [h] at z; cases z
    · rw [h] at z; cases z
  · refine ⟨[a], [.ro (ns.map PV.int)], [.ref 0], fun p _ => p = .bl true, ⟨rfl, by simp, fun n m e => ?_, hT, hsi _ _⟩, .cons (.ref rfl) .nil, ⟨ns, hl, .inl ⟨rfl, rfl⟩, fun _ => rfl⟩, fun ι' H' S' p v _ _ r q => by subst q; cases r; rfl⟩
    cases n with
    | zero =>
      simp only [List.getElem?_cons_zero, Option.some.injEq] at e
      subst e
      exact ⟨a, rfl, _, ⟨o, h⟩, .ints ns⟩
    | succ n => simp at e
  · exact ⟨[], [], [.kls (ns.map PV.int)], fun p _ => p = .bl true, ⟨rfl, List.nodup_nil, fun n m e => by simp at e, hT, hsi _ _⟩, .cons (.kls h (.ints ns)) .nil, ⟨ns, hl, .inr ⟨rfl, rfl⟩, fun _ => rfl⟩, fun ι' H' S' p v _ _ r q => by subst q; cases r; rfl⟩
end M

namespace M
open PySem PySem.Spec PyProof.Rows L2
variable [Tabs]

/-- the head: the script and the tables are tracked -/
theorem law_callT {P : Program} {w : World} {K : PySem.W.Frag} {mg mb : Str → Option Value} {k : Nat} {fa a : Addr} {fd : FuncData} {x : Str} {sp : Sp} {s₁ : Shared} {vs : List Value} {ns : List Int}
    (KX : K.In s₁.heap) (hns : s₁.heap.Ns mainGlobals mg) (hb : s₁.heap.Ns builtinsNs mb) (hbb : ∀ x : Str, x ≠ "__name__" → mb x = bootBuiltins x) (hlim : s₁.heap.NoLimit) (hbm : BMod mg s₁.heap) (hg : s₁.gens = #[])
    (hTb : ∀ P, Tabs.T P → s₁.heap.get? P = some (PySem.W.tabObj #[]) ∧ isCodeTable s₁.heap P) (hKT : PySem.W.noTabs K = true)
    (ha : s₁.heap.get? a = some { cls := .type "list", data := .seq vs.toArray }) (hi : IntsAre vs ns) (hl : ns.length ≤ sizeLine) (hr : Room k callerA)
    (F : ∀ base : Heap, K.In base → base.Ns mainGlobals mg → BMod mg base → FnOk P w K mg base CX0 k fa fd [x] sp) (hbind : ∀ (s : Shared) (u : Value), BindsTo s fd ⟨[u], []⟩ [(x, u)])
    (hsp : ∀ H : Hp, OnlyT H → TabsIn H → SqL K H a (ns.map V.int) → sp [.ref a] H (fun v _ => v = .bl true) fun _ _ _ => False) :
    codeAny (model P w) callerA (.call (.ref fa) ⟨[.ref a], []⟩) (fun r s' => r = .ok (.ret (.bool true)) ∧ OldK s₁.heap s'.heap ∧ s'.os = s₁.os ∧ AllBare s'.gens) s₁ := by
  have rv := vals_ints hi
  have lenV := hi.length
  have aT : ¬ Tabs.T a := fun z => by
    have := (hTb a z).1
    rw [ha] at this; cases this
  have core : ∀ H : Hp, OnlyT H → (∀ P, Tabs.T P → H P = some (.tbl #[])) → SqL K H a (ns.map V.int) → (∀ u, H a = some u → ObjOk P w H s₁.heap a u) → (∀ b, H b ≠ none → b = a ∨ Tabs.T b) → (H a ≠ none → K.lookup a = none) →
      codeAny (model P w) callerA (.call (.ref fa) ⟨[.ref a], []⟩) (fun r s' => r = .ok (.ret (.bool true)) ∧ OldK s₁.heap s'.heap ∧ s'.os = s₁.os ∧ AllBare s'.gens) s₁ := by
    intro H hO hTH hS hoka hA hK
    have hok : HOk P w H s₁.heap := fun b u e => by
      rcases hA b (by rw [e]; simp) with z | z
      · subst z; exact hoka u e
      · rw [hTH b z] at e
        cases e
        exact (hTb b z).1
    have base_of : ∀ {b : Addr} {o : Obj}, s₁.heap.get? b = some o → H b = none → (hidT s₁.heap H).get? b = some o := fun e n => hidT_get e n
    -- what is no list and no table isn't tracked
    have noA : ∀ {b : Addr} {o : Obj}, s₁.heap.get? b = some o → o.cls ≠ .type "list" → o ≠ PySem.W.tabObj #[] → H b = none := fun {b o} e d1 d2 => by
      cases q : H b with
      | none => rfl
      | some u =>
        rcases hA b (by rw [q]; simp) with e' | e'
        · subst e'
          rw [ha] at e; cases e
          exact absurd rfl d1
        · rw [(hTb b e').1] at e; cases e
          exact absurd rfl d2
    have noD : ∀ {b : Addr} {o : Obj} {es : Array DictEntry} {ep : Nat}, s₁.heap.get? b = some o → o.data = .dict es ep → H b = none := fun {b o es ep} e d => by
      cases q : H b with
      | none => rfl
      | some u =>
        rcases hA b (by rw [q]; simp) with e' | e'
        · subst e'
          rw [ha] at e; cases e
          have d' : Data.seq vs.toArray _ = Data.dict es ep := d
          cases d'
        · rw [(hTb b e').1] at e; cases e
          have d' : Data.fields #[] = Data.dict es ep := d
          cases d'
    have nsK : ∀ {b : Addr} {m : Str → Option Value}, s₁.heap.Ns b m → (hidT s₁.heap H).Ns b m := fun {b m} ⟨o, es, ep, e, d, r⟩ => ⟨o, es, ep, base_of e (noD e d), d, r⟩
    have hKb : K.In (hidT s₁.heap H) := fun b o e => base_of (KX b o e) (by
      cases q : H b with
      | none => rfl
      | some u =>
        rcases hA b (by rw [q]; simp) with e' | e'
        · subst e'
          rw [hK (by rw [q]; simp)] at e; cases e
        · have h2 := List.all_eq_true.mp hKT (b, o) (PySem.W.mem_of_lookupK e)
          have h3 := KX b o e
          rw [(hTb b e').1] at h3; cases h3
          exact absurd (show false = true from h2) Bool.false_ne_true)
    have hM : Mod K mg (hidT s₁.heap H) := ⟨hKb, nsK hns, ⟨mb, nsK hb, hbb⟩, let ⟨mc, h1, h2⟩ := hlim; ⟨mc, nsK h1, h2⟩⟩
    have hbm' : BMod mg (hidT s₁.heap H) := by
      obtain ⟨bm, ob, b1, b2, b3, b4, b5, b6⟩ := hbm
      exact ⟨bm, ob, b1, b2, base_of b3 (noA b3 (by rw [b4]; intro z; injection z with z; exact absurd z (by decide)) (by rintro rfl; cases b4)), b4, b5, b6⟩
    have e0 : Env0 P w K mg (hidT s₁.heap H) callerA [] s₁ H := ⟨rfl, hM, fun b o e => of_hidT e, Nat.le_of_eq (hidT_size _ _), trivial, fun b hb => absurd (show b ∈ ([] : List Addr) from hb) (by simp), hok, .of_eq hg⟩
    refine codeAny_mono ((F _ hKb (nsK hns) hbm').run callerA [] s₁ H ⟨[.ref a], []⟩ [.ref a] [.ref a] _ _ hr e0 (hbind s₁ (.ref a)) (.cons rfl .nil) (hsp H hO (fun P hP => ⟨#[], hTH P hP, True.intro⟩) hS)) fun r s' h => ?_
    cases r with
    | error e => exact h.elim
    | ok fl =>
      cases fl with
      | next => exact False.elim h
      | brk => exact False.elim h
      | cont => exact False.elim h
      | ret u =>
        obtain ⟨v, H', os, bare, un, hok', r', q⟩ := h
        have q' : v = .bl true := q
        subst q'
        obtain rfl : u = Value.bool true := r'
        refine ⟨rfl, ⟨fun b o e => ?_, fun b o e => un.there b o e (by simp)⟩, os, bare⟩
        cases q : H b with
        | none => exact .inl (un.keep b o e q (by intro z; exact absurd (show b ∈ ([] : List Addr) from z) (by simp)) (by simp))
        | some u =>
          rcases hO b with z | ⟨ob, xs, z⟩ | ⟨hT, z⟩
          · rw [q] at z; cases z
          · have z2 := un.frzs b ob _ z
            obtain ⟨e1, _⟩ := hok b _ z
            obtain ⟨e2, _⟩ := hok' b _ z2
            rw [e] at e1; cases e1
            exact .inl e2
          · obtain ⟨more, z2⟩ := un.tbls b _ z
            have e2 : s'.heap.get? b = some (PySem.W.tabObj (#[] ++ more)) := hok' b _ z2
            have e1 := (hTb b hT).1
            rw [e] at e1; cases e1
            exact .inr (.inl ⟨(hTb b hT).2, rfl, #[], more, rfl, e2⟩)
  classical
  cases hk : K.lookup a with
  | some o =>
    have e := KX a o hk
    rw [ha] at e
    cases e
    refine core (fun b => if Tabs.T b then some (.tbl #[]) else none) (fun b => ?_) (fun P hP => if_pos hP) (.inr ⟨_, vs.toArray, _, hk, rfl, rfl, rfl, by rw [List.size_toArray, lenV]; exact hl, by simpa using rv⟩) (fun u z => ?_) (fun b z => ?_) fun z => absurd (if_neg aT) z
    · by_cases hb : Tabs.T b
      · exact .inr (.inr ⟨hb, if_pos hb⟩)
      · exact .inl (if_neg hb)
    · have z' := (if_neg aT).symm.trans z
      cases z'
    · by_cases hb : Tabs.T b
      · exact .inr hb
      · exact absurd (if_neg hb) z
  | none =>
    refine core (fun b => if b = a then some (.frz { cls := .type "list", data := .seq vs.toArray } (.lst (ns.map V.int))) else if Tabs.T b then some (.tbl #[]) else none) (fun b => ?_) (fun P hP => ?_) (.inl (.inr ⟨{ cls := .type "list", data := .seq vs.toArray }, if_pos rfl⟩)) (fun u z => ?_) (fun b z => ?_) fun _ => hk
    · by_cases hb : b = a
      · exact .inr (.inl ⟨_, _, if_pos hb⟩)
      · by_cases hT : Tabs.T b
        · exact .inr (.inr ⟨hT, by simp only [if_neg hb, if_pos hT]⟩)
        · exact .inl (by simp only [if_neg hb, if_neg hT])
    · have hb : P ≠ a := fun z => aT (z ▸ hP)
      simp only [if_neg hb, if_pos hP]
    · have z' := (if_pos rfl).symm.trans z
      cases z'
      exact ⟨ha, by rw [List.length_map]; exact hl, vs, _, rv, ha⟩
    · by_cases hb : b = a
      · exact .inl hb
      · by_cases hT : Tabs.T b
        · exact .inr hT
        · exact absurd (by simp only [if_neg hb, if_neg hT]) z

/-- the tables of some defs -/
def TabsOf (K : PySem.W.Frag) (names : List Str) : Tabs := ⟨fun P => ∃ x ∈ names, ∃ c, PySem.W.tabIn K x = some (c, P), fun _ _ _ => True, fun _ _ => trivial⟩
omit [Tabs] in
theorem walk_ofT {l : PySem.W.OpenLaw} {n k : Nat} {q : Program} {loose names : List Str} {XP : (Str → Option Value) → Heap → Prop} {YP : World → Heap → Prop} {d : DefRec} {K : Params → PySem.W.Frag} {x : Str}
    (hn : l.most = some n) (hn2 : n ≤ 63) (hdf : d.params.defaults = []) (hr : Room k callerA)
    (hY : ∀ (w : World) (h : Heap), YP w h → (K w.params).In h) (hnm : ∀ x ∈ names, ∃ d, (recsOf q).find? (fun e => e.name == x) = some d)
    (F : ∀ (w : World) (mg : Str → Option Value) (fa : Addr) (h : Heap), (K w.params).In h → h.Ns mainGlobals mg → mg d.name = some (.ref fa) →
      PySem.W.noTabs (K w.params) = true ∧ ∃ fd : FuncData, (∀ (s : Shared) (u : Value), BindsTo s fd ⟨[u], []⟩ [(x, u)]) ∧
        ∀ base : Heap, (K w.params).In base → base.Ns mainGlobals mg → BMod mg base → FnOk l.prog w (K w.params) mg base CX0 k fa fd [x] (@liftSp (TabsOf (K w.params) names) (K w.params) spLaw)) :
    PySem.W.WalkO q loose XP YP l.row.toRowW d [] (fun f vs => PySem.call f vs) := by
  refine Att.attach_call hn hdf fun w s₀ s₁ mg mb fa o pm cd doc a vs ns G Y ho hd hcd hmg hobj hints hlen hg => ?_
  have KX := hY w _ Y
  obtain ⟨hKT, fd, hb, hF⟩ := F w mg fa _ KX G.T.g hmg
  letI : Tabs := TabsOf (K w.params) names
  refine law_callT KX G.T.g G.T.b G.T.builtins G.T.nolimit G.T.bmain hg (fun P hP => ?_) hKT hobj hints (Nat.le_trans hlen (Nat.le_trans hn2 (by decide))) hr hF hb fun H hO hT hS => law_sp (Nat.le_trans hlen hn2) hO hT hS fun _ _ => trivial
  obtain ⟨y, hy, c, ht⟩ := hP
  obtain ⟨d', hd'⟩ := hnm y hy
  obtain ⟨z1, z2⟩ := PySem.W.tab_of G.T KX hd' ht
  exact ⟨z2, (z1.tab z2).isCodeTable⟩
end M

namespace M
open PySem PySem.Spec PyProof.Rows L2
variable [Tabs]

theorem fut_tbl {K : PySem.W.Frag} {ι : List Addr} {H : Hp} {P : Addr} {ps qs : Array Value} (hP : H P = some (.tbl ps)) : Fut K ι H ι (upd H P (.tbl qs)) := ⟨fun _ _ h => h, fun b xs h => by
  rcases h with (h | ⟨ob, h⟩) | h
  · exact .inl (.inl (by rw [upd_ne (ne_of h hP (by intro z; cases z))]; exact h))
  · exact .inl (.inr ⟨ob, by rw [upd_ne (ne_of h hP (by intro z; cases z))]; exact h⟩)
  · exact .inr h, fun b o z h q => ⟨h, by rw [upd_ne (ne_of q hP (by rintro rfl; exact z))]; exact q⟩⟩
theorem RS.grow {K : PySem.W.Frag} {ι : List Addr} {H : Hp} {S : Sto} {P : Addr} {ps qs : Array Value} (r : RS K ι H S) (hP : H P = some (.tbl ps)) (hq : TriplesOk qs.toList) : RS K ι (L2.upd H P (.tbl qs)) S := ⟨r.len, r.nd, fun n m e => by
  obtain ⟨b, h1, h2⟩ := r.obj n m e
  obtain ⟨u, hu, _, hk⟩ := h2.stands'
  exact ⟨b, h1, h2.fut (fut_tbl hP) (upd_ne (ne_of hu hP (hk ps)))⟩, fun P' hP' => by
  obtain ⟨ps', e, t⟩ := r.tab P' hP'
  by_cases z : P' = P
  · subst z; exact ⟨qs, upd_same, hq⟩
  · exact ⟨ps', by rw [upd_ne z]; exact e, t⟩, Tabs.mono r.si (fut_tbl hP)⟩

/-- a def's code and its table -/
structure CodeAt (K : PySem.W.Frag) (cdv : Value) : Prop where
  ex : ∃ c P, cdv = .ref c ∧ PySem.W.codeHdIn K c P = true ∧ Tabs.T P
section
variable {X : Cx} {elt iter : Expr} {ifs : List Expr} {scope : Scope} {f x : Str} {p pos gpos px : Pos} {wi : WI} {t : WT} {e : WE} {k : Nat}
end

end M

/-! the heap never gets smaller -/
namespace M
open PySem PySem.Spec PyProof.Rows L2
theorem runs_size {M : Model} {Γ : PySem.Ctx} {p : Pos} {t : Sem Fin} {fs : List Frame} {s s' : Shared} {e : End} (h : Runs M Γ p t fs s e s') : s.heap.objs.size ≤ s'.heap.objs.size := by
  induction h <;> (try simp only [Shared.setGen, Heap.size_update, Heap.size_push] at *) <;> omega
theorem wakes_size {M : Model} {Γ : PySem.Ctx} {p : Pos} {g : Nat} {r : Resume} {s s' : Shared} {res : GenResult} (h : Wakes M Γ p g r s res s') : s.heap.objs.size ≤ s'.heap.objs.size := by
  unfold Wakes at h
  split at h
  · exact h.elim
  · split at h
    · obtain ⟨e1, s1, hr, _, _, rfl⟩ := h
      have z := runs_size hr
      exact z
    all_goals exact Nat.le_of_eq (congrArg (·.heap.objs.size) h.2.symm)
  · obtain ⟨e1, s1, hr, _, _, rfl⟩ := h
    have z := runs_size hr
    exact z
  all_goals exact Nat.le_of_eq (congrArg (·.heap.objs.size) h.2.symm)
theorem wp_size {α : Type} (M : Model) (Γ : PySem.Ctx) (n : Nat) (t : Sem α) : ∀ (Q : α → Pos → Shared → Prop) (E : Value → Pos → Shared → Prop) (p : Pos) (s : Shared), n ≤ s.heap.objs.size → Sem.wp M Γ t Q E p s →
    Sem.wp M Γ t (fun a p' s' => n ≤ s'.heap.objs.size ∧ Q a p' s') (fun e p' s' => n ≤ s'.heap.objs.size ∧ E e p' s') p s := by
  induction t with
  | pure a => exact fun Q E p s g z => ⟨g, z⟩
  | raise e => exact fun Q E p s g z => ⟨g, z⟩
  | unsupported _ => exact fun Q E p s _ z => z
  | finish _ => exact fun Q E p s _ z => z
  | rule _ k ih => exact fun Q E p s g z => ih () Q E p s g z
  | «at» p' k ih => exact fun Q E p s g z => ih () Q E p' s g z
  | load a _ k ih => exact fun Q E p s g ⟨o, ho, z⟩ => ⟨o, ho, ih o Q E p s g z⟩
  | update a _ f k ih => exact fun Q E p s g z => ⟨z.1, ih () Q E p _ (by show n ≤ (s.heap.update a f).objs.size; rw [Heap.size_update]; exact g) z.2⟩
  | loadIfAlive a k ih => exact fun Q E p s g z => ih _ Q E p s g z
  | point _ k ih => exact fun Q E p s g z => ih () Q E p s g z
  | register _ _ => exact fun Q E p s _ z => z
  | alloc o k ih => exact fun Q E p s g z => ih _ Q E p _ (by show n ≤ (s.heap.push o).objs.size; rw [Heap.size_push]; exact Nat.le_succ_of_le g) z
  | fresh k ih => exact fun Q E p s g z => ih _ Q E p _ g z
  | ask k ih => exact fun Q E p s g z => ih _ Q E p s g z
  | choose src m k ih => exact fun Q E p s g z => ⟨z.1, ih _ Q E p _ g z.2⟩
  | os q _ k ih => exact fun Q E p s g z => ih _ Q E p _ g z
  | call c hd _ _ k ih => exact fun Q E p s g ⟨r, s', hr, z⟩ => ⟨r, s', hr, ih r Q E p s' (Nat.le_trans g (runs_size hr)) z⟩
  | handled own k ih => exact fun Q E p s g z => ih _ Q E p s g z
  | genState g k ih => exact fun Q E p s g ⟨st, hs, z⟩ => ⟨st, hs, ih _ Q E p s g z⟩
  | newGen c k ih => exact fun Q E p s g z => ih _ Q E p _ g z
  | resume g r _ k ih => exact fun Q E p s g ⟨res, s', hw, z⟩ => ⟨res, s', hw, ih res Q E p s' (Nat.le_trans g (wakes_size hw)) z⟩
  | yield _ _ _ _ => exact fun Q E p s _ z => z
  | stack k ih => exact fun Q E p s g z => ih _ Q E p s g z
  | fork _ _ => exact fun Q E p s _ z => z
  | thread k ih => exact fun Q E p s g z => ih _ Q E p s g z
  | await _ _ _ _ _ => exact fun Q E p s _ z => z
theorem with_size {α : Type} {M : Model} {A : Around} {s : Shared} {t : Sem α} {Q : α → Shared → Prop} {E : Value → Shared → Prop} {n : Nat} (hn : n ≤ s.heap.objs.size) (h : wpAny M A t (fun a s' => n ≤ s'.heap.objs.size → Q a s') E s) :
    wpAny M A t Q E s :=
  wpAny_mono (Q := fun a s' => n ≤ s'.heap.objs.size ∧ (n ≤ s'.heap.objs.size → Q a s')) (E := fun e s' => n ≤ s'.heap.objs.size ∧ E e s') (fun Γ p hΓ => wp_size M Γ n t _ _ p s hn (h Γ p hΓ)) (fun a s' z => z.2 z.1) fun e s' z => z.2
end M

namespace M
open PySem PySem.Spec PyProof.Rows L2
variable [Tabs]

section
variable {prog : Program} {w : World} {A : Around} {E : Value → Shared → Prop} {s : Shared}
end

end M

/-! The model's sort, at any length: by a comparison that answers as a total preorder. -/
namespace TS
open PySem PyProof.Rows

def gallop' : Bool → Keyed → Array Keyed → Nat → Nat → Nat → StateT SortSt Sem (Option Nat) := sortPriv% PySem.Builtin.gallop
/-- a private function of the model, opened where it stands -/
local macro_rules | `(tactic| walk_at "open gallop") => do
  let n := Lean.mkIdent (.str (.str (.str (.num (.str (.str (.str (.str (.str .anonymous "_private") "PySem") "Builtin") "List") "W1All") 0) "PySem") "Builtin") "gallop")
  `(tactic| delta $n:ident)
variable {M : Model} {A : Around} {E : Value → Shared → Prop} {s : Shared}
/-- the comparison, as it answers on what is sorted -/
structure Cmp (M : Model) (A : Around) (E : Value → Shared → Prop) (s : Shared) (kd : SortKind) (D : Keyed → Prop) (less : Keyed → Keyed → Bool) : Prop where
  ans : ∀ x y st (Q : Option Bool → SortSt → Prop), D x → D y → kindOf st = kd → Q (some (less x y)) st → wpS M A E s (lt' x y) Q st
  irr : ∀ x, D x → less x x = false
  asy : ∀ x y, D x → D y → less x y = true → less y x = false
  tr : ∀ x y z, D x → D y → D z → less y x = false → less z y = false → less z x = false
section
variable {kd : SortKind} {D : Keyed → Prop} {less : Keyed → Keyed → Bool}
theorem wp_elem {arr : Array Keyed} {i : Nat} {x : Keyed} {Q : Keyed → SortSt → Prop} {st : SortSt} (h : arr[i]? = some x) (q : Q x st) : wpS M A E s (elem' arr i) Q st := by
  rw [elem'_eq, h]
  exact wpS_pure q
/-- where an item stands to the key -/
def byd (less : Keyed → Keyed → Bool) (left : Bool) (key : Keyed) (arr : Array Keyed) (base i : Nat) : Bool := match arr[base + i]? with
  | some x => if left then less x key else !less key x
  | none => false
theorem wp_beyond (C : Cmp M A E s kd D less) {left : Bool} {key : Keyed} {arr : Array Keyed} {base i : Nat} {x : Keyed} {Q : Option Bool → SortSt → Prop} {st : SortSt} (hk : kindOf st = kd) (hd : D key) (hx : arr[base + i]? = some x) (dx : D x) (q : Q (some (byd less left key arr base i)) st) :
    wpS M A E s (do
        let x ← elem' arr (base + i)
        if left = true then lt' x key
          else do
            let r ← lt' key x
            pure (Option.map (fun x => !x) r)) Q st := by
  refine wpS_bind (wp_elem hx ?_)
  unfold byd at q
  rw [hx] at q
  cases left with
  | true =>
    simp only [if_true] at q ⊢
    exact C.ans x key st Q dx hd hk q
  | false =>
    simp only [Bool.false_eq_true, if_false] at q ⊢
    exact wpS_bind (C.ans key x st _ hd dx hk (wpS_pure q))
theorem wp_gallop (C : Cmp M A E s kd D less) {left : Bool} {key : Keyed} {arr : Array Keyed} {base n hint : Nat} {Q : Option Nat → SortSt → Prop} {st : SortSt} (hk : kindOf st = kd) (hd : D key) (hx : ∀ i, i < n → ∃ x, arr[base + i]? = some x ∧ D x)
    (mono : ∀ i j, i ≤ j → j < n → byd less left key arr base j = true → byd less left key arr base i = true) (hh : hint < n)
    (q : ∀ k, k ≤ n → (∀ i, i < k → byd less left key arr base i = true) → (∀ i, k ≤ i → i < n → byd less left key arr base i = false) → Q (some k) st) : wpS M A E s (gallop' left key arr base n hint) Q st := by
  have bey : ∀ (i : Nat) (Q : Option Bool → SortSt → Prop), i < n → Q (some (byd less left key arr base i)) st → wpS M A E s (do
        let x ← elem' arr (base + i)
        if left = true then lt' x key
          else do
            let r ← lt' key x
            pure (Option.map (fun x => !x) r)) Q st := fun i Q hi q => by
    obtain ⟨x, h1, h2⟩ := hx i hi
    exact wp_beyond C hk hd h1 h2 q
  have fl : ∀ i j, i ≤ j → j < n → byd less left key arr base i = false → byd less left key arr base j = false := fun i j h1 h2 h3 => by
    cases h : byd less left key arr base j with
    | false => rfl
    | true => rw [mono i j h1 h2 h] at h3; cases h3
  unfold gallop'
  walk_at "open gallop"
  refine wpS_bind (bey hint _ hh ?_)
  -- the binary search
  have bin : ∀ (f : Nat → Option (Option Nat) × Nat × Nat → StateT SortSt Sem (ForInStep (Option (Option Nat) × Nat × Nat))),
      (∀ (x lo hi : Nat) (Q : ForInStep (Option (Option Nat) × Nat × Nat) → SortSt → Prop), (lo ≥ hi → Q (.done (none, lo, hi)) st) → (lo < hi → hi ≤ n → byd less left key arr base (lo + (hi - lo) / 2) = true → Q (.yield (none, lo + (hi - lo) / 2 + 1, hi)) st) →
        (lo < hi → hi ≤ n → byd less left key arr base (lo + (hi - lo) / 2) = false → Q (.yield (none, lo, lo + (hi - lo) / 2)) st) → hi ≤ n → wpS M A E s (f x (none, lo, hi)) Q st) →
      ∀ lo hi, lo ≤ hi → hi ≤ n → (∀ i, i < lo → byd less left key arr base i = true) → (∀ i, hi ≤ i → i < n → byd less left key arr base i = false) →
      wpS M A E s (forIn [:n] ((none : Option (Option Nat)), lo, hi) f) (fun c st' => st' = st ∧ c.1 = none ∧ Q (some c.2.2) st) st := by
    intro f hf lo hi h1 h2 h3 h4
    refine wpS_forRange (fun j (c : Option (Option Nat) × Nat × Nat) st' => st' = st ∧ c.1 = none ∧ c.2.1 ≤ c.2.2 ∧ c.2.2 ≤ n ∧ c.2.2 - c.2.1 + j ≤ n ∧ (∀ i, i < c.2.1 → byd less left key arr base i = true) ∧ (∀ i, c.2.2 ≤ i → i < n → byd less left key arr base i = false)) ?_ ?_ ⟨rfl, rfl, h1, h2, by show hi - lo + 0 ≤ n; omega, h3, h4⟩
    · rintro j ⟨r, lo, hi⟩ st' _ hj ⟨e1, e2, g1, g2, g3, g4, g5⟩
      subst e1
      obtain rfl : r = none := e2
      have g1 : lo ≤ hi := g1
      have g2 : hi ≤ n := g2
      have g3 : hi - lo + j ≤ n := g3
      refine hf j lo hi _ (fun hlh => ?_) (fun hlh _ hb => ?_) (fun hlh _ hb => ?_) g2
      · have : lo = hi := by omega
        subst this
        exact ⟨rfl, rfl, q lo g2 g4 g5⟩
      · refine ⟨rfl, rfl, by show lo + (hi - lo) / 2 + 1 ≤ hi; omega, g2, by show hi - (lo + (hi - lo) / 2 + 1) + (j + 1) ≤ n; omega, fun i hi' => mono i (lo + (hi - lo) / 2) ?_ (by omega) hb, g5⟩
        have hi' : i < lo + (hi - lo) / 2 + 1 := hi'
        omega
      · refine ⟨rfl, rfl, by show lo ≤ lo + (hi - lo) / 2; omega, by show lo + (hi - lo) / 2 ≤ n; omega, by show lo + (hi - lo) / 2 - lo + (j + 1) ≤ n; omega, g4, fun i hi' hn => fl (lo + (hi - lo) / 2) i hi' hn hb⟩
    · rintro ⟨r, lo, hi⟩ st' ⟨e1, e2, g1, g2, g3, g4, g5⟩
      have g1 : lo ≤ hi := g1
      have g3 : hi - lo + max 0 n ≤ n := g3
      have : lo = hi := by omega
      subst this
      exact ⟨e1, e2, q lo g2 g4 g5⟩
  cases hb : byd less left key arr base hint with
  | true =>
    simp only [if_true]
    refine wpS_bind (wpS_mono (wpS_forRange (fun j (c : Option (Option Nat) × Nat × Nat) st' => st' = st ∧ c.1 = none ∧ c.2.1 < c.2.2 ∧ j < c.2.2 ∧ hint + c.2.1 < n ∧ byd less left key arr base (hint + c.2.1) = true) (Q := fun c st' => st' = st ∧ c.1 = none ∧ c.2.1 < c.2.2 ∧ hint + c.2.1 < n ∧ byd less left key arr base (hint + c.2.1) = true ∧ (n - hint ≤ c.2.2 ∨ (hint + c.2.2 < n ∧ byd less left key arr base (hint + c.2.2) = false))) ?_ ?_ ⟨rfl, rfl, by decide, by decide, hh, hb⟩) ?_)
    · rintro j ⟨_, lastofs, ofs⟩ st' _ hj ⟨rfl, rfl, g1, g2, g3, g4⟩
      dsimp only at g1 g2 g3 g4 ⊢
      by_cases ho : ofs ≥ n - hint
      · rw [if_pos ho]
        exact wpS_pure ⟨rfl, rfl, g1, g3, g4, .inl ho⟩
      · rw [if_neg ho]
        refine wpS_bind (bey _ _ (by omega) ?_)
        cases hb2 : byd less left key arr base (hint + ofs) with
        | true =>
          simp only [Bool.not_true, Bool.false_eq_true, if_false]
          exact wpS_pure ⟨rfl, rfl, by dsimp only; omega, by dsimp only; omega, by dsimp only; omega, hb2⟩
        | false =>
          simp only [Bool.not_false, if_true]
          exact wpS_pure ⟨rfl, rfl, g1, g3, g4, .inr ⟨by dsimp only; omega, hb2⟩⟩
    · rintro ⟨_, lastofs, ofs⟩ st' ⟨rfl, rfl, g1, g2, g3, g4⟩
      exact ⟨rfl, rfl, g1, g3, g4, .inl (by dsimp only at g2 ⊢; omega)⟩
    · rintro ⟨_, lastofs, ofs⟩ st' ⟨rfl, rfl, g1, g3, g4, g5⟩
      dsimp only at g1 g3 g4 g5 ⊢
      have H2 : ∀ i, hint + min ofs (n - hint) ≤ i → i < n → byd less left key arr base i = false := fun i hi hn => by
        rcases g5 with g5 | ⟨g5, g6⟩
        · omega
        · exact fl _ i (by omega) hn g6
      refine wpS_bind (wpS_mono (bin _ ?_ (hint + lastofs + 1) (hint + min ofs (n - hint)) (by omega) (by omega) (fun i hi => mono i (hint + lastofs) (by omega) g3 g4) H2) ?_)
      · intro x lo hi Q q1 q2 q3 hn
        dsimp only
        by_cases hlh : lo ≥ hi
        · rw [if_pos hlh]
          exact wpS_pure (q1 hlh)
        · rw [if_neg hlh]
          refine wpS_bind (bey _ _ (by omega) ?_)
          cases hb : byd less left key arr base (lo + (hi - lo) / 2) with
          | true =>
            simp only [if_true]
            exact wpS_pure (q2 (by omega) hn hb)
          | false =>
            simp only [Bool.false_eq_true, if_false]
            exact wpS_pure (q3 (by omega) hn hb)
      · rintro ⟨r, lo, hi⟩ st' ⟨e1, e2, q⟩
        subst e1
        obtain rfl : r = none := e2
        exact wpS_pure q
  | false =>
    simp only [Bool.false_eq_true, if_false]
    refine wpS_bind (wpS_mono (wpS_forRange (fun j (c : Option (Option Nat) × Nat × Nat) st' => st' = st ∧ c.1 = none ∧ c.2.1 < c.2.2 ∧ j < c.2.2 ∧ c.2.1 ≤ hint ∧ byd less left key arr base (hint - c.2.1) = false) (Q := fun c st' => st' = st ∧ c.1 = none ∧ c.2.1 < c.2.2 ∧ c.2.1 ≤ hint ∧ byd less left key arr base (hint - c.2.1) = false ∧ (hint + 1 ≤ c.2.2 ∨ (c.2.2 ≤ hint ∧ byd less left key arr base (hint - c.2.2) = true))) ?_ ?_ ⟨rfl, rfl, by decide, by decide, Nat.zero_le _, hb⟩) ?_)
    · rintro j ⟨_, lastofs, ofs⟩ st' _ hj ⟨rfl, rfl, g1, g2, g3, g4⟩
      dsimp only at g1 g2 g3 g4 ⊢
      by_cases ho : ofs ≥ hint + 1
      · rw [if_pos ho]
        exact wpS_pure ⟨rfl, rfl, g1, g3, g4, .inl ho⟩
      · rw [if_neg ho]
        refine wpS_bind (bey _ _ (by omega) ?_)
        cases hb2 : byd less left key arr base (hint - ofs) with
        | true =>
          simp only [if_true]
          exact wpS_pure ⟨rfl, rfl, g1, g3, g4, .inr ⟨by dsimp only; omega, hb2⟩⟩
        | false =>
          simp only [Bool.false_eq_true, if_false]
          exact wpS_pure ⟨rfl, rfl, by dsimp only; omega, by dsimp only; omega, by dsimp only; omega, hb2⟩
    · rintro ⟨_, lastofs, ofs⟩ st' ⟨rfl, rfl, g1, g2, g3, g4⟩
      exact ⟨rfl, rfl, g1, g3, g4, .inl (by dsimp only at g2 ⊢; omega)⟩
    · rintro ⟨_, lastofs, ofs⟩ st' ⟨rfl, rfl, g1, g3, g4, g5⟩
      dsimp only at g1 g3 g4 g5 ⊢
      have H1 : ∀ i, i < hint + 1 - min ofs (hint + 1) → byd less left key arr base i = true := fun i hi => by
        rcases g5 with g5 | ⟨g5, g6⟩
        · omega
        · exact mono i (hint - ofs) (by omega) (by omega) g6
      refine wpS_bind (wpS_mono (bin _ ?_ (hint + 1 - min ofs (hint + 1)) (hint - lastofs) (by omega) (by omega) H1 (fun i hi hn => fl (hint - lastofs) i (by omega) hn g4)) ?_)
      · intro x lo hi Q q1 q2 q3 hn
        dsimp only
        by_cases hlh : lo ≥ hi
        · rw [if_pos hlh]
          exact wpS_pure (q1 hlh)
        · rw [if_neg hlh]
          refine wpS_bind (bey _ _ (by omega) ?_)
          cases hb : byd less left key arr base (lo + (hi - lo) / 2) with
          | true =>
            simp only [if_true]
            exact wpS_pure (q2 (by omega) hn hb)
          | false =>
            simp only [Bool.false_eq_true, if_false]
            exact wpS_pure (q3 (by omega) hn hb)
      · rintro ⟨r, lo, hi⟩ st' ⟨e1, e2, q⟩
        subst e1
        obtain rfl : r = none := e2
        exact wpS_pure q
end
end TS

namespace TS
open PySem PyProof.Rows
abbrev setGallop (st : SortSt) (g : Nat) : SortSt := SortSt.mk' (kindOf st) (arrOf st) (pendingOf st) g (failedOf st)
def setMinGallop' : Nat → StateT SortSt Sem Unit := sortPriv% PySem.Builtin.setMinGallop
theorem setMinGallop'_eq (g : Nat) : setMinGallop' g = modify fun s => setGallop s g := rfl
def mergeLo' : Array Keyed → Array Keyed → StateT SortSt Sem (Array Keyed) := sortPriv% PySem.Builtin.mergeLo
abbrev C1 := Option (Array Keyed) × Array Keyed × Nat × Nat × Nat × Nat
abbrev C2 := Option (Array Keyed) × Array Keyed × Nat × Nat × Nat × Nat × Nat
abbrev C3 := Option (Array Keyed) × Array Keyed × Nat × Nat × Nat
abbrev SM := StateT SortSt Sem
section
variable (a b : Array Keyed)
/-- what comes out when nothing is left to compare: the first row's rest ahead, or the second's -/
abbrev dn (out : Array Keyed) (ia ib : Nat) : Array Keyed := out ++ a.extract ia a.size ++ b.extract ib b.size
abbrev la (out : Array Keyed) (ia ib : Nat) : Array Keyed := out ++ b.extract ib b.size ++ a.extract ia a.size
end
end TS

namespace TS
open PySem PyProof.Rows

/-! ### two sorted rows, partly taken -/
section
variable {α : Type} {le : α → α → Prop}
structure MSL (le : α → α → Prop) (xs ys o : List α) (i j : Nat) : Prop where
  perm : (o ++ (xs.drop i ++ ys.drop j)).Perm (xs ++ ys)
  srt : o.Pairwise le
  bel : ∀ x ∈ o, ∀ r ∈ xs.drop i ++ ys.drop j, le x r
structure Mgd (le : α → α → Prop) (xs ys o : List α) : Prop where
  perm : o.Perm (xs ++ ys)
  srt : o.Pairwise le
variable {xs ys o : List α} {i j : Nat}
theorem MSL.takeA (m : MSL le xs ys o i j) (sx : xs.Pairwise le) (k : Nat) (h : ∀ x ∈ (xs.drop i).take k, ∀ r ∈ ys.drop j, le x r) : MSL le xs ys (o ++ (xs.drop i).take k) (i + k) j := by
  have e : (xs.drop i).drop k = xs.drop (i + k) := List.drop_drop ..
  have d : (xs.drop i).take k ++ xs.drop (i + k) = xs.drop i := by rw [← e, List.take_append_drop]
  have sd : (xs.drop i).Pairwise le := sx.sublist (List.drop_sublist _ _)
  rw [← d, List.pairwise_append] at sd
  refine ⟨?_, ?_, ?_⟩
  · have := m.perm
    rw [← d] at this
    rw [List.append_assoc, ← List.append_assoc ((xs.drop i).take k)]
    exact this
  · rw [List.pairwise_append]
    exact ⟨m.srt, sd.1, fun x hx y hy => m.bel x hx y (List.mem_append_left _ (List.mem_of_mem_take hy))⟩
  · intro x hx r hr
    rcases List.mem_append.mp hx with hx | hx
    · refine m.bel x hx r ?_
      rcases List.mem_append.mp hr with hr | hr
      · exact List.mem_append_left _ (by rw [← d]; exact List.mem_append_right _ hr)
      · exact List.mem_append_right _ hr
    · rcases List.mem_append.mp hr with hr | hr
      · exact sd.2.2 x hx r hr
      · exact h x hx r hr
theorem MSL.takeB (m : MSL le xs ys o i j) (sy : ys.Pairwise le) (k : Nat) (h : ∀ x ∈ (ys.drop j).take k, ∀ r ∈ xs.drop i, le x r) : MSL le xs ys (o ++ (ys.drop j).take k) i (j + k) := by
  have e : (ys.drop j).drop k = ys.drop (j + k) := List.drop_drop ..
  have d : (ys.drop j).take k ++ ys.drop (j + k) = ys.drop j := by rw [← e, List.take_append_drop]
  have sd : (ys.drop j).Pairwise le := sy.sublist (List.drop_sublist _ _)
  rw [← d, List.pairwise_append] at sd
  refine ⟨?_, ?_, ?_⟩
  · have := m.perm
    rw [← d] at this
    refine List.Perm.trans ?_ this
    rw [List.append_assoc]
    refine .append_left o ?_
    simp only [← List.append_assoc]
    exact .append_right _ List.perm_append_comm
  · rw [List.pairwise_append]
    exact ⟨m.srt, sd.1, fun x hx y hy => m.bel x hx y (List.mem_append_right _ (List.mem_of_mem_take hy))⟩
  · intro x hx r hr
    rcases List.mem_append.mp hx with hx | hx
    · refine m.bel x hx r ?_
      rcases List.mem_append.mp hr with hr | hr
      · exact List.mem_append_left _ hr
      · exact List.mem_append_right _ (by rw [← d]; exact List.mem_append_right _ hr)
    · rcases List.mem_append.mp hr with hr | hr
      · exact h x hx r hr
      · exact sd.2.2 x hx r hr
theorem MSL.doneB (m : MSL le xs ys o i j) (sx : xs.Pairwise le) (hj : ys.length ≤ j) : Mgd le xs ys (o ++ xs.drop i ++ ys.drop j) := by
  have e : ys.drop j = [] := List.drop_eq_nil_of_le hj
  refine ⟨by rw [List.append_assoc]; exact m.perm, ?_⟩
  rw [e, List.append_nil, List.pairwise_append]
  exact ⟨m.srt, sx.sublist (List.drop_sublist _ _), fun x hx r hr => m.bel x hx r (List.mem_append_left _ hr)⟩
theorem MSL.doneA (m : MSL le xs ys o i j) (sy : ys.Pairwise le) (hi : xs.length ≤ i) : Mgd le xs ys (o ++ xs.drop i ++ ys.drop j) := by
  have e : xs.drop i = [] := List.drop_eq_nil_of_le hi
  refine ⟨by rw [List.append_assoc]; exact m.perm, ?_⟩
  rw [e, List.append_nil, List.pairwise_append]
  exact ⟨m.srt, sy.sublist (List.drop_sublist _ _), fun x hx r hr => m.bel x hx r (List.mem_append_right _ hr)⟩
/-- what is left of the first row is above the second's -/
theorem MSL.last (m : MSL le xs ys o i j) (sx : xs.Pairwise le) (sy : ys.Pairwise le) (h : ∀ x ∈ ys.drop j, ∀ r ∈ xs.drop i, le x r) : Mgd le xs ys (o ++ ys.drop j ++ xs.drop i) := by
  refine ⟨?_, ?_⟩
  · rw [List.append_assoc]
    exact (List.Perm.append_left _ List.perm_append_comm).trans m.perm
  · rw [List.append_assoc, List.pairwise_append]
    refine ⟨m.srt, ?_, fun x hx r hr => m.bel x hx r ?_⟩
    · rw [List.pairwise_append]
      exact ⟨sy.sublist (List.drop_sublist _ _), sx.sublist (List.drop_sublist _ _), h⟩
    · rcases List.mem_append.mp hr with hr | hr
      · exact List.mem_append_right _ hr
      · exact List.mem_append_left _ hr
theorem take_one {xs : List α} {i : Nat} {x : α} (h : xs[i]? = some x) : (xs.drop i).take 1 = [x] := by
  obtain ⟨hl, e⟩ := List.getElem?_eq_some_iff.mp h
  rw [List.drop_eq_getElem_cons hl, e]
  rfl
theorem mem_take_drop {xs : List α} {i k : Nat} {x : α} (h : x ∈ (xs.drop i).take k) : ∃ n, n < k ∧ xs[i + n]? = some x := by
  obtain ⟨n, hn, e⟩ := List.getElem_of_mem h
  have hl := hn
  rw [List.length_take] at hl
  refine ⟨n, by omega, ?_⟩
  rw [List.getElem_take, List.getElem_drop] at e
  rw [List.getElem?_eq_some_iff]
  exact ⟨by rw [List.length_drop] at hl; omega, e⟩
theorem mem_drop {xs : List α} {i : Nat} {x : α} (h : x ∈ xs.drop i) : ∃ n, xs[i + n]? = some x ∧ i + n < xs.length := by
  obtain ⟨n, hn, e⟩ := List.getElem_of_mem h
  rw [List.length_drop] at hn
  rw [List.getElem_drop] at e
  exact ⟨n, List.getElem?_eq_some_iff.mpr ⟨by omega, e⟩, by omega⟩
theorem pw_get {xs : List α} (h : xs.Pairwise le) {i j : Nat} {x y : α} (hij : i < j) (hx : xs[i]? = some x) (hy : xs[j]? = some y) : le x y := by
  obtain ⟨h1, e1⟩ := List.getElem?_eq_some_iff.mp hx
  obtain ⟨h2, e2⟩ := List.getElem?_eq_some_iff.mp hy
  have := List.pairwise_iff_getElem.mp h i j h1 h2 hij
  rw [e1, e2] at this
  exact this
end
theorem extract_list (a : Array Keyed) (i j : Nat) : (a.extract i j).toList = (a.toList.drop i).take (j - i) := by
  rw [Array.toList_extract]
theorem extract_all (a : Array Keyed) (i : Nat) : (a.extract i a.size).toList = a.toList.drop i := by
  rw [extract_list]
  exact List.take_of_length_le (by rw [List.length_drop, Array.length_toList]; omega)
theorem dn_list (a b out : Array Keyed) (ia ib : Nat) : (dn a b out ia ib).toList = out.toList ++ a.toList.drop ia ++ b.toList.drop ib := by
  unfold dn
  rw [Array.toList_append, Array.toList_append, extract_all, extract_all]
theorem la_list (a b out : Array Keyed) (ia ib : Nat) : (la a b out ia ib).toList = out.toList ++ b.toList.drop ib ++ a.toList.drop ia := by
  unfold la
  rw [Array.toList_append, Array.toList_append, extract_all, extract_all]
end TS

namespace TS
open PySem PyProof.Rows
variable {M : Model} {A : Around} {E : Value → Shared → Prop} {s : Shared} {kd : SortKind} {D : Keyed → Prop} {less : Keyed → Keyed → Bool}
abbrev leq (less : Keyed → Keyed → Bool) (x y : Keyed) : Prop := less y x = false
/-- two rows that may be merged from the front -/
structure Two (D : Keyed → Prop) (less : Keyed → Keyed → Bool) (a b : Array Keyed) : Prop where
  sa : a.toList.Pairwise (leq less)
  sb : b.toList.Pairwise (leq less)
  da : ∀ x ∈ a.toList, D x
  db : ∀ x ∈ b.toList, D x
  na : 0 < a.size
  nb : 0 < b.size
  lst : ∀ x ∈ b.toList, ∀ z, a.toList[a.size - 1]? = some z → leq less x z
  fst : ∀ x ∈ a.toList, ∀ z, b.toList[0]? = some z → leq less z x
structure MI (less : Keyed → Keyed → Bool) (a b out : Array Keyed) (ia ib : Nat) : Prop where
  m : MSL (leq less) a.toList b.toList out.toList ia ib
  la : ia + 1 < a.size
  lb : ib < b.size
  sz : out.size = ia + ib
abbrev RR (less : Keyed → Keyed → Bool) (a b r : Array Keyed) : Prop := Mgd (leq less) a.toList b.toList r.toList
theorem arr_get {a : Array Keyed} {i : Nat} (h : i < a.size) : ∃ x, a[i]? = some x ∧ a.toList[i]? = some x := ⟨a[i], Array.getElem?_eq_getElem h, by rw [Array.getElem?_toList, Array.getElem?_eq_getElem h]⟩
section
variable {a b : Array Keyed}
theorem mem_of_get {a : Array Keyed} {i : Nat} {x : Keyed} (h : a.toList[i]? = some x) : x ∈ a.toList := List.mem_of_getElem? h
/-- all behind a place are at least what stands there -/
theorem le_drop (C : Cmp M A E s kd D less) {l : List Keyed} (sl : l.Pairwise (leq less)) (dl : ∀ x ∈ l, D x) {i : Nat} {x r : Keyed} (h : l[i]? = some x) (hr : r ∈ l.drop i) : leq less x r := by
  obtain ⟨n, e, _⟩ := mem_drop hr
  by_cases hn : n = 0
  · subst hn
    rw [Nat.add_zero, h] at e
    cases e
    exact C.irr x (dl x (List.mem_of_getElem? h))
  · exact pw_get sl (by omega) h e
theorem leq_trans (C : Cmp M A E s kd D less) {x y z : Keyed} (dx : D x) (dy : D y) (dz : D z) (h1 : leq less x y) (h2 : leq less y z) : leq less x z := C.tr x y z dx dy dz h1 h2
theorem MI.pushB (T : Two D less a b) {out : Array Keyed} {ia ib : Nat} {y : Keyed} (m : MSL (leq less) a.toList b.toList out.toList ia ib) (hy : b.toList[ib]? = some y) (h : ∀ r ∈ a.toList.drop ia, leq less y r) : MSL (leq less) a.toList b.toList (out.push y).toList ia (ib + 1) := by
  have := m.takeB T.sb 1 (by rw [take_one hy]; intro x hx r hr; rw [List.mem_singleton.mp hx]; exact h r hr)
  rw [take_one hy] at this
  rw [Array.toList_push]
  exact this
theorem MI.pushA (T : Two D less a b) {out : Array Keyed} {ia ib : Nat} {x : Keyed} (m : MSL (leq less) a.toList b.toList out.toList ia ib) (hx : a.toList[ia]? = some x) (h : ∀ r ∈ b.toList.drop ib, leq less x r) : MSL (leq less) a.toList b.toList (out.push x).toList (ia + 1) ib := by
  have := m.takeA T.sa 1 (by rw [take_one hx]; intro z hz r hr; rw [List.mem_singleton.mp hz]; exact h r hr)
  rw [take_one hx] at this
  rw [Array.toList_push]
  exact this
theorem end_b (T : Two D less a b) {out : Array Keyed} {ia ib : Nat} (m : MSL (leq less) a.toList b.toList out.toList ia ib) (h : (ib == b.size) = true) : RR less a b (dn a b out ia ib) := by
  unfold RR
  rw [dn_list]
  exact m.doneB T.sa (by rw [Array.length_toList, beq_iff_eq.mp h]; exact Nat.le_refl _)
theorem end_a (T : Two D less a b) {out : Array Keyed} {ia ib : Nat} (m : MSL (leq less) a.toList b.toList out.toList ia ib) (h : (ia == a.size) = true) : RR less a b (dn a b out ia ib) := by
  unfold RR
  rw [dn_list]
  exact m.doneA T.sb (by rw [Array.length_toList, beq_iff_eq.mp h]; exact Nat.le_refl _)
theorem end_l (T : Two D less a b) {out : Array Keyed} {ia ib : Nat} (m : MSL (leq less) a.toList b.toList out.toList ia ib) (h : (ia + 1 == a.size) = true) : RR less a b (la a b out ia ib) := by
  unfold RR
  rw [la_list]
  refine m.last T.sa T.sb fun x hx r hr => ?_
  obtain ⟨n, e, hl⟩ := mem_drop hr
  rw [Array.length_toList] at hl
  have h1 := beq_iff_eq.mp h
  have : ia + n = a.size - 1 := by omega
  rw [this] at e
  exact T.lst x (List.mem_of_mem_drop hx) r e
/-- a leap, either kind -/
theorem byd_at {left : Bool} {key x : Keyed} {arr : Array Keyed} {base i : Nat} (h : arr.toList[base + i]? = some x) : byd less left key arr base i = if left then less x key else !less key x := by
  unfold byd
  rw [show arr[base + i]? = some x by rw [← Array.getElem?_toList]; exact h]
theorem wp_leap (C : Cmp M A E s kd D less) {left : Bool} {key : Keyed} {arr : Array Keyed} {base n hint : Nat} {Q : Option Nat → SortSt → Prop} {st : SortSt} (hk : kindOf st = kd) (hd : D key) (sl : arr.toList.Pairwise (leq less)) (dl : ∀ x ∈ arr.toList, D x) (hb : base + n ≤ arr.size) (hh : hint < n)
    (q : ∀ k, k ≤ n → (∀ i x, i < k → arr.toList[base + i]? = some x → (if left then less x key else !less key x) = true) → (∀ i x, k ≤ i → i < n → arr.toList[base + i]? = some x → (if left then less x key else !less key x) = false) → Q (some k) st) : wpS M A E s (gallop' left key arr base n hint) Q st := by
  refine wp_gallop C hk hd (fun i hi => ?_) (fun i j hij hj hbj => ?_) hh fun k k1 k2 k3 => q k k1 (fun i x hi hx => ?_) (fun i x h1 h2 hx => ?_)
  · obtain ⟨x, hx, lx⟩ := arr_get (show base + i < arr.size by omega)
    exact ⟨x, hx, dl x (mem_of_get lx)⟩
  · obtain ⟨x, hx, lx⟩ := arr_get (show base + i < arr.size by omega)
    obtain ⟨y, hy, ly⟩ := arr_get (show base + j < arr.size by omega)
    rw [byd_at ly] at hbj
    rw [byd_at lx]
    have dx := dl x (mem_of_get lx)
    have dy := dl y (mem_of_get ly)
    have hxy : leq less x y := by
      rcases Nat.lt_or_ge i j with h | h
      · exact pw_get sl (by omega) lx ly
      · have : i = j := by omega
        subst this
        rw [lx] at ly; cases ly
        exact C.irr x dx
    cases left with
    | true =>
      simp only [if_true] at hbj ⊢
      cases hz : less x key with
      | true => rfl
      | false => rw [C.tr key x y hd dx dy hz hxy] at hbj; cases hbj
    | false =>
      simp only [Bool.false_eq_true, if_false, Bool.not_eq_true'] at hbj ⊢
      exact C.tr x y key dx dy hd hxy hbj
  · rw [← byd_at hx]; exact k2 i hi
  · rw [← byd_at hx]; exact k3 i h1 h2
theorem ext_list (out b : Array Keyed) (i k : Nat) : (out ++ b.extract i (i + k)).toList = out.toList ++ (b.toList.drop i).take k := by
  rw [Array.toList_append, extract_list]
  congr 2
  omega
theorem ext_size (out b : Array Keyed) (i k : Nat) (h : i + k ≤ b.size) : (out ++ b.extract i (i + k)).size = out.size + k := by
  rw [Array.size_append, Array.size_extract]
  omega
theorem wp_setMin {g : Nat} {Q : Unit → SortSt → Prop} {st : SortSt} (q : Q () (setGallop st g)) : wpS M A E s (setMinGallop' g) Q st := by
  rw [setMinGallop'_eq]
  exact wpS_modify q
end
end TS

namespace TS
open PySem PyProof.Rows
variable {M : Model} {A : Around} {E : Value → Shared → Prop} {s : Shared} {kd : SortKind} {D : Keyed → Prop} {less : Keyed → Keyed → Bool} {a b : Array Keyed}
/-- a private function of the model, opened where it stands -/
local macro_rules | `(tactic| walk_at "open mergeLo") => do
  let n := Lean.mkIdent (.str (.str (.str (.num (.str (.str (.str (.str (.str .anonymous "_private") "PySem") "Builtin") "List") "W1All") 0) "PySem") "Builtin") "mergeLo")
  `(tactic| delta $n:ident)
def SG (st st' : SortSt) : Prop := ∃ g, st' = setGallop st g
theorem SG.refl (st : SortSt) : SG st st := ⟨gallopOf st, rfl⟩
theorem SG.set {st st' : SortSt} (h : SG st st') (g : Nat) : SG st (setGallop st' g) := by obtain ⟨g', rfl⟩ := h; exact ⟨g, rfl⟩
theorem SG.kind {st st' : SortSt} (h : SG st st') : kindOf st' = kindOf st := by obtain ⟨g', rfl⟩ := h; rfl
theorem wp_rule {tag : String} {Q : PUnit → SortSt → Prop} {st : SortSt} (q : Q ⟨⟩ st) : wpS M A E s (liftM (rule tag) : StateT SortSt Sem PUnit) Q st := wpS_lift (wpAny_rule ⟨rfl, q⟩)
theorem ext_none (o b : Array Keyed) (i : Nat) : o ++ b.extract i (i + 0) = o := by
  rw [Nat.add_zero, Array.extract_empty_of_stop_le_start (Nat.le_refl _), Array.append_empty]
theorem wp_mergeLo (C : Cmp M A E s kd D less) (T : Two D less a b) {st : SortSt} {Q : Array Keyed → SortSt → Prop} (hk : kindOf st = kd) (q : ∀ r st', SG st st' → RR less a b r → Q r st') : wpS M A E s (mergeLo' a b) Q st := by
  obtain ⟨y, hy, ly⟩ := arr_get T.nb
  have na := T.na
  have nb := T.nb
  have m : MSL (leq less) a.toList b.toList (#[y] : Array Keyed).toList 0 1 := by
    have m0 : MSL (leq less) a.toList b.toList (#[] : Array Keyed).toList 0 0 := ⟨by simp, by simp, fun x hx => by simp at hx⟩
    exact MI.pushB T m0 ly fun r hr => T.fst r (by simpa using hr) y ly
  unfold mergeLo'
  walk_at "open mergeLo"
  refine wpS_bind (wp_rule (wpS_bind (wp_elem hy ?_)))
  dsimp only
  by_cases h1 : (1 == b.size) = true
  · rw [if_pos h1]
    exact wpS_pure (q _ _ (.refl st) (end_b T m h1))
  rw [if_neg h1]
  by_cases h2 : (0 + 1 == a.size) = true
  · rw [if_pos h2]
    exact wpS_pure (q _ _ (.refl st) (end_l T m h2))
  rw [if_neg h2]
  have h1 : 1 ≠ b.size := fun z => h1 (beq_iff_eq.mpr z)
  have h2 : 0 + 1 ≠ a.size := fun z => h2 (beq_iff_eq.mpr z)
  have I : MI less a b #[y] 0 1 := ⟨m, by omega, by omega, rfl⟩
  -- round upon round
  refine wpS_bind (wpS_get (wpS_bind (wpS_mono (wpS_forRange (fun n (c : C3) st' => SG st st' ∧ c.1 = none ∧ MI less a b c.2.1 c.2.2.1 c.2.2.2.1 ∧ n < c.2.1.size) (Q := fun c st' => SG st st' ∧ ∃ r, c.1 = some r ∧ RR less a b r) ?_ ?_ ⟨.refl st, rfl, I, by show 0 < 1; decide⟩) ?_)))
  rotate_left
  · rintro ⟨c1, o, i, j, mg⟩ st' ⟨g1, e1, I1, s1⟩
    have s1 : max 0 (a.size + b.size) < o.size := s1
    have := I1.sz
    have := I1.la
    have := I1.lb
    dsimp only at *
    omega
  · rintro ⟨c1, o, i, j, mg⟩ st' ⟨g1, r, e1, h⟩
    obtain rfl : c1 = some r := e1
    exact wpS_pure (q _ _ g1 h)
  clear I m h1 h2 hy ly
  rintro n ⟨c1, out, ia, ib, mg⟩ st' _ hn' ⟨hg, e1, I, so⟩
  obtain rfl : c1 = none := e1
  replace so : n < out.size := so
  -- one by one
  refine wpS_bind (wpS_mono (wpS_forRange (fun n (c : C1) st' => SG st st' ∧ c.1 = none ∧ MI less a b c.2.1 c.2.2.1 c.2.2.2.1 ∧ out.size + (if n = 0 then 0 else 1) ≤ c.2.1.size) (Q := fun c st' => SG st st' ∧ ((∃ r, c.1 = some r ∧ RR less a b r) ∨ (c.1 = none ∧ MI less a b c.2.1 c.2.2.1 c.2.2.2.1 ∧ out.size < c.2.1.size))) ?_ ?_ ⟨hg, rfl, I, by simp⟩) ?_)
  · rintro n ⟨c1, o, i, j, ac, bc⟩ st' _ hn' ⟨g1, e1, I1, s1⟩
    obtain rfl : c1 = none := e1
    have s1 : out.size + (if n = 0 then 0 else 1) ≤ o.size := s1
    have s2 : out.size ≤ o.size := by split at s1 <;> omega
    have on : ∀ (o' : Array Keyed), o'.size = o.size + 1 → out.size < o'.size ∧ out.size + (if n + 1 = 0 then 0 else 1) ≤ o'.size := fun o' hs => ⟨by omega, by rw [if_neg (by omega)]; omega⟩
    have la1 := I1.la
    have lb1 := I1.lb
    have sz1 := I1.sz
    dsimp only at la1 lb1 sz1
    obtain ⟨y, hy, ly⟩ := arr_get I1.lb
    obtain ⟨x, hx, lx⟩ := arr_get (show i < a.size by omega)
    have dx := T.da x (mem_of_get lx)
    have dy := T.db y (mem_of_get ly)
    dsimp only
    refine wpS_bind (wp_elem hy (wpS_bind (wp_elem hx (wpS_bind (C.ans y x st' _ dy dx (g1.kind.trans hk) ?_)))))
    cases hw : less y x with
    | true =>
      dsimp only
      rw [if_pos rfl]
      have m := MI.pushB T I1.m ly fun r hr => leq_trans C dy dx (T.da r (List.mem_of_mem_drop hr)) (C.asy y x dy dx hw) (le_drop C T.sa T.da lx hr)
      refine wpS_bind (wp_elem hy ?_)
      by_cases he : (j + 1 == b.size) = true
      · rw [if_pos he]
        exact wpS_pure ⟨g1, .inl ⟨_, rfl, end_b T m he⟩⟩
      · rw [if_neg he]
        have he : j + 1 ≠ b.size := fun z => he (beq_iff_eq.mpr z)
        have I' : MI less a b (o.push y) i (j + 1) := ⟨m, la1, by omega, by rw [Array.size_push, sz1]; omega⟩
        have h2 := on _ (Array.size_push (xs := o) y)
        split
        · exact wpS_pure ⟨g1, .inr ⟨rfl, I', h2.1⟩⟩
        · exact wpS_pure ⟨g1, rfl, I', h2.2⟩
    | false =>
      dsimp only
      rw [if_neg Bool.false_ne_true]
      have m := MI.pushA T I1.m lx fun r hr => leq_trans C dx dy (T.db r (List.mem_of_mem_drop hr)) hw (le_drop C T.sb T.db ly hr)
      refine wpS_bind (wp_elem hx ?_)
      by_cases he : (i + 1 + 1 == a.size) = true
      · rw [if_pos he]
        exact wpS_pure ⟨g1, .inl ⟨_, rfl, end_l T m he⟩⟩
      · rw [if_neg he]
        have he : i + 1 + 1 ≠ a.size := fun z => he (beq_iff_eq.mpr z)
        have I' : MI less a b (o.push x) (i + 1) j := ⟨m, by omega, lb1, by rw [Array.size_push, sz1]; omega⟩
        have h2 := on _ (Array.size_push (xs := o) x)
        split
        · exact wpS_pure ⟨g1, .inr ⟨rfl, I', h2.1⟩⟩
        · exact wpS_pure ⟨g1, rfl, I', h2.2⟩
  · rintro ⟨c1, o, i, j, ac, bc⟩ st' ⟨g1, e1, I1, s1⟩
    refine ⟨g1, .inr ⟨e1, I1, ?_⟩⟩
    have s1 : out.size + (if max 0 (a.size + b.size) = 0 then 0 else 1) ≤ o.size := s1
    rw [if_neg (by omega)] at s1
    exact s1
  rintro ⟨c1, o, i, j, ac, bc⟩ st' ⟨g1, ⟨r, e1, h⟩ | ⟨e1, I1, s1⟩⟩
  · obtain rfl : c1 = some r := e1
    exact wpS_pure ⟨g1, r, rfl, h⟩
  obtain rfl : c1 = none := e1
  replace s1 : out.size < o.size := s1
  dsimp only
  -- by leaps
  refine wpS_bind (wp_rule (wpS_bind (wpS_mono (wpS_forRange (fun n (c : C2) st' => SG st st' ∧ c.1 = none ∧ MI less a b c.2.1 c.2.2.1 c.2.2.2.1 ∧ out.size < c.2.1.size) (Q := fun c st' => SG st st' ∧ ((∃ r, c.1 = some r ∧ RR less a b r) ∨ (c.1 = none ∧ MI less a b c.2.1 c.2.2.1 c.2.2.2.1 ∧ out.size < c.2.1.size))) ?_ ?_ ⟨g1, rfl, I1, s1⟩) ?_)))
  rotate_left
  · rintro ⟨c1, o, i, j, mg, ac, bc⟩ st' ⟨g1, e1, I1, s1⟩
    exact ⟨g1, .inr ⟨e1, I1, s1⟩⟩
  · rintro ⟨c1, o, i, j, mg, ac, bc⟩ st' ⟨g1, ⟨r, e1, h⟩ | ⟨e1, I1, s1⟩⟩
    · obtain rfl : c1 = some r := e1
      exact wpS_pure ⟨g1, r, rfl, h⟩
    · obtain rfl : c1 = none := e1
      dsimp only
      have s1 : out.size < o.size := s1
      exact wpS_bind (wp_setMin (wpS_pure ⟨g1.set _, rfl, I1, by show n + 1 < o.size; omega⟩))
  clear I1 s1 g1 I hg
  rintro n2 ⟨c1, o, i, j, mg2, ac2, bc2⟩ st' _ hn2 ⟨g1, e1, I1, s1⟩
  obtain rfl : c1 = none := e1
  replace s1 : out.size < o.size := s1
  have la1 := I1.la
  have lb1 := I1.lb
  have sz1 := I1.sz
  dsimp only at la1 lb1 sz1
  obtain ⟨y, hy, ly⟩ := arr_get I1.lb
  have dy := T.db y (mem_of_get ly)
  dsimp only at hy ly ⊢
  by_cases hmg : mg2 > 1
  case' pos =>
    rw [if_pos hmg]
    generalize mg2 - 1 = mgn
  case' neg =>
    rw [if_neg hmg]
    generalize mg2 = mgn
  all_goals
    have g2 := g1.set mgn
    have hk2 := g2.kind.trans hk
    refine wpS_bind (wp_setMin (wpS_bind (wp_elem hy (wpS_bind (wp_leap C (st := setGallop st' mgn) hk2 dy T.sa T.da (by omega) (by omega) fun k hkn k1 k2 => ?_)))))
    simp only [Bool.false_eq_true, if_false, Bool.not_eq_true', Bool.not_eq_false'] at k1 k2
    dsimp only
    have m2 := I1.m.takeA T.sa k fun z hz r hr => by
      obtain ⟨n, hn, e⟩ := mem_take_drop hz
      exact leq_trans C (T.da z (List.mem_of_getElem? e)) dy (T.db r (List.mem_of_mem_drop hr)) (k1 n z hn e) (le_drop C T.sb T.db ly hr)
    have ab1 : ∀ r ∈ a.toList.drop (i + k), leq less y r := fun r hr => by
      obtain ⟨n, e, hl⟩ := mem_drop hr
      rw [Array.length_toList] at hl
      rw [Nat.add_assoc] at e
      exact C.asy y r dy (T.da r (List.mem_of_getElem? e)) (k2 (k + n) r (by omega) (by omega) e)
    dsimp only at m2
    rw [← ext_list] at m2
    have zo : (o ++ a.extract i (i + k)).size = i + k + j := by rw [ext_size o a i k (by omega)]; omega
    have zl : out.size < (o ++ a.extract i (i + k)).size := by rw [ext_size o a i k (by omega)]; omega
    by_cases h0 : k > 0
    case' pos =>
      rw [if_pos h0]
      by_cases he : (i + k + 1 == a.size) = true
      · rw [if_pos he]
        exact wpS_pure ⟨g2, .inl ⟨_, rfl, end_l T m2 he⟩⟩
      rw [if_neg he]
      by_cases he2 : (i + k == a.size) = true
      · rw [if_pos he2]
        exact wpS_pure ⟨g2, .inl ⟨_, rfl, end_a T m2 he2⟩⟩
      rw [if_neg he2]
      have li : i + k + 1 < a.size := by
        have he : i + k + 1 ≠ a.size := fun z => he (beq_iff_eq.mpr z)
        have he2 : i + k ≠ a.size := fun z => he2 (beq_iff_eq.mpr z)
        omega
      generalize o ++ a.extract i (i + k) = o1 at m2 zo zl ⊢
      generalize hi1 : i + k = i1 at m2 ab1 li zo ⊢
    case' neg =>
      rw [if_neg h0]
      obtain rfl : k = 0 := by omega
      rw [ext_none] at m2 zo zl
      have li : i + 1 < a.size := la1
      generalize ho1 : o = o1 at m2 zo zl ⊢
      generalize hi1 : i = i1 at m2 ab1 li zo ⊢
    all_goals
      refine wpS_bind (wp_elem hy ?_)
      have m3 := MI.pushB T m2 ly ab1
      by_cases he : (j + 1 == b.size) = true
      · rw [if_pos he]
        exact wpS_pure ⟨g2, .inl ⟨_, rfl, end_b T m3 he⟩⟩
      rw [if_neg he]
      have he : j + 1 ≠ b.size := fun z => he (beq_iff_eq.mpr z)
      obtain ⟨x, hx, lx⟩ := arr_get (Nat.lt_of_succ_lt li)
      have dx := T.da x (mem_of_get lx)
      refine wpS_bind (wp_elem hx (wpS_bind (wp_leap C (st := setGallop st' mgn) hk2 dx T.sb T.db (by omega) (by omega) fun k' hkn k1 k2 => ?_)))
      simp only [if_true] at k1 k2
      dsimp only
      have m4 := m3.takeB T.sb k' fun z hz r hr => by
        obtain ⟨n, hn, e⟩ := mem_take_drop hz
        exact leq_trans C (T.db z (List.mem_of_getElem? e)) dx (T.da r (List.mem_of_mem_drop hr)) (C.asy z x (T.db z (List.mem_of_getElem? e)) dx (k1 n z hn e)) (le_drop C T.sa T.da lx hr)
      have ab2 : ∀ r ∈ b.toList.drop (j + 1 + k'), leq less x r := fun r hr => by
        obtain ⟨n, e, hl⟩ := mem_drop hr
        rw [Array.length_toList] at hl
        rw [Nat.add_assoc] at e
        exact k2 (k' + n) r (by omega) (by omega) e
      rw [← ext_list] at m4
      have z4 := ext_size (o1.push y) b (j + 1) k' (by omega)
      rw [Array.size_push] at z4
      by_cases h0' : k' > 0
      case' pos =>
        rw [if_pos h0']
        by_cases he2 : (j + 1 + k' == b.size) = true
        · rw [if_pos he2]
          exact wpS_pure ⟨g2, .inl ⟨_, rfl, end_b T m4 he2⟩⟩
        rw [if_neg he2]
        have lj : j + 1 + k' < b.size := by
          have he2 : j + 1 + k' ≠ b.size := fun z => he2 (beq_iff_eq.mpr z)
          omega
        generalize o1.push y ++ b.extract (j + 1) (j + 1 + k') = o2 at m4 z4 ⊢
        generalize hj1 : j + 1 + k' = j1 at m4 ab2 lj ⊢
      case' neg =>
        rw [if_neg h0']
        obtain rfl : k' = 0 := by omega
        rw [ext_none] at m4 z4
        have lj : j + 1 < b.size := by omega
        generalize o1.push y = o2 at m4 z4 ⊢
        generalize hj1 : j + 1 = j1 at m4 ab2 lj ⊢
      all_goals
        refine wpS_bind (wp_elem hx ?_)
        have m5 := MI.pushA T m4 lx ab2
        by_cases he3 : (i1 + 1 + 1 == a.size) = true
        · rw [if_pos he3]
          exact wpS_pure ⟨g2, .inl ⟨_, rfl, end_l T m5 he3⟩⟩
        rw [if_neg he3]
        have he3 : i1 + 1 + 1 ≠ a.size := fun z => he3 (beq_iff_eq.mpr z)
        have I' : MI less a b (o2.push x) (i1 + 1) j1 := ⟨m5, by omega, lj, by rw [Array.size_push]; omega⟩
        have hl : out.size < (o2.push x).size := by rw [Array.size_push]; omega
        split
        · exact wpS_pure ⟨g2, .inr ⟨rfl, I', hl⟩⟩
        · exact wpS_pure ⟨g2, rfl, I', hl⟩
end TS

namespace TS
open PySem PyProof.Rows
def mergeHi' : Array Keyed → Array Keyed → StateT SortSt Sem (Array Keyed) := sortPriv% PySem.Builtin.mergeHi
abbrev H1 := Option (Array Keyed) × Nat × Nat × Array Keyed × Nat × Nat
abbrev H2 := Option (Array Keyed) × Nat × Nat × Array Keyed × Nat × Nat × Nat
abbrev H3 := Option (Array Keyed) × Nat × Nat × Array Keyed × Nat
section
variable (a b : Array Keyed)
abbrev dh (out : Array Keyed) (na nb : Nat) : Array Keyed := a.extract 0 na ++ b.extract 0 nb ++ out.reverse
abbrev fh (out : Array Keyed) (na nb : Nat) : Array Keyed := b.extract 0 nb ++ a.extract 0 na ++ out.reverse
end
end TS

namespace TS
open PySem PyProof.Rows
section
variable {α : Type} {le : α → α → Prop}
structure MSR (le : α → α → Prop) (xs ys o : List α) (i j : Nat) : Prop where
  perm : ((xs.take i ++ ys.take j) ++ o).Perm (xs ++ ys)
  srt : o.Pairwise le
  bel : ∀ x ∈ o, ∀ r ∈ xs.take i ++ ys.take j, le r x
variable {xs ys o : List α} {i j : Nat}
theorem cut (xs : List α) {t i : Nat} (h : t ≤ i) : xs.take t ++ (xs.take i).drop t = xs.take i := by
  have e : (xs.take i).take t = xs.take t := by rw [List.take_take, Nat.min_eq_left h]
  rw [← e, List.take_append_drop]
theorem MSR.takeA (m : MSR le xs ys o i j) (sx : xs.Pairwise le) {t : Nat} (ht : t ≤ i) (h : ∀ x ∈ (xs.take i).drop t, ∀ r ∈ ys.take j, le r x) : MSR le xs ys ((xs.take i).drop t ++ o) t j := by
  have d := cut xs ht
  have sd : (xs.take i).Pairwise le := sx.sublist (List.take_sublist _ _)
  rw [← d, List.pairwise_append] at sd
  refine ⟨?_, ?_, ?_⟩
  · have := m.perm
    rw [← d] at this
    refine List.Perm.trans ?_ this
    rw [← List.append_assoc]
    refine .append_right o ?_
    simp only [List.append_assoc]
    exact .append_left _ List.perm_append_comm
  · rw [List.pairwise_append]
    exact ⟨sd.2.1, m.srt, fun x hx y hy => m.bel y hy x (List.mem_append_left _ (List.mem_of_mem_drop hx))⟩
  · intro x hx r hr
    rcases List.mem_append.mp hx with hx | hx
    · rcases List.mem_append.mp hr with hr | hr
      · exact sd.2.2 r hr x hx
      · exact h x hx r hr
    · refine m.bel x hx r ?_
      rcases List.mem_append.mp hr with hr | hr
      · exact List.mem_append_left _ (by rw [← d]; exact List.mem_append_left _ hr)
      · exact List.mem_append_right _ hr
theorem MSR.takeB (m : MSR le xs ys o i j) (sy : ys.Pairwise le) {t : Nat} (ht : t ≤ j) (h : ∀ x ∈ (ys.take j).drop t, ∀ r ∈ xs.take i, le r x) : MSR le xs ys ((ys.take j).drop t ++ o) i t := by
  have d := cut ys ht
  have sd : (ys.take j).Pairwise le := sy.sublist (List.take_sublist _ _)
  rw [← d, List.pairwise_append] at sd
  refine ⟨?_, ?_, ?_⟩
  · have := m.perm
    rw [← d, ← List.append_assoc (xs.take i), List.append_assoc _ _ o] at this
    exact this
  · rw [List.pairwise_append]
    exact ⟨sd.2.1, m.srt, fun x hx y hy => m.bel y hy x (List.mem_append_right _ (List.mem_of_mem_drop hx))⟩
  · intro x hx r hr
    rcases List.mem_append.mp hx with hx | hx
    · rcases List.mem_append.mp hr with hr | hr
      · exact h x hx r hr
      · exact sd.2.2 r hr x hx
    · refine m.bel x hx r ?_
      rcases List.mem_append.mp hr with hr | hr
      · exact List.mem_append_left _ hr
      · exact List.mem_append_right _ (by rw [← d]; exact List.mem_append_left _ hr)
theorem MSR.doneA (m : MSR le xs ys o i j) (sy : ys.Pairwise le) (hi : i = 0) : Mgd le xs ys (xs.take i ++ ys.take j ++ o) := by
  subst hi
  refine ⟨m.perm, ?_⟩
  rw [List.take_zero, List.nil_append, List.pairwise_append]
  exact ⟨sy.sublist (List.take_sublist _ _), m.srt, fun x hx y hy => m.bel y hy x (List.mem_append_right _ hx)⟩
theorem MSR.doneB (m : MSR le xs ys o i j) (sx : xs.Pairwise le) (hj : j = 0) : Mgd le xs ys (xs.take i ++ ys.take j ++ o) := by
  subst hj
  refine ⟨m.perm, ?_⟩
  rw [List.take_zero, List.append_nil, List.pairwise_append]
  exact ⟨sx.sublist (List.take_sublist _ _), m.srt, fun x hx y hy => m.bel y hy x (List.mem_append_left _ hx)⟩
theorem MSR.first (m : MSR le xs ys o i j) (sx : xs.Pairwise le) (sy : ys.Pairwise le) (h : ∀ r ∈ ys.take j, ∀ x ∈ xs.take i, le r x) : Mgd le xs ys (ys.take j ++ xs.take i ++ o) := by
  refine ⟨(List.Perm.append_right _ List.perm_append_comm).trans m.perm, ?_⟩
  rw [List.pairwise_append]
  refine ⟨?_, m.srt, fun x hx y hy => m.bel y hy x ?_⟩
  · rw [List.pairwise_append]
    exact ⟨sy.sublist (List.take_sublist _ _), sx.sublist (List.take_sublist _ _), h⟩
  · rcases List.mem_append.mp hx with hx | hx
    · exact List.mem_append_right _ hx
    · exact List.mem_append_left _ hx
theorem last_one {xs : List α} {i : Nat} {x : α} (h : xs[i]? = some x) : (xs.take (i + 1)).drop i = [x] := by
  obtain ⟨hl, e⟩ := List.getElem?_eq_some_iff.mp h
  rw [List.drop_take]
  rw [show i + 1 - i = 1 by omega]
  exact take_one h
theorem mem_cut {xs : List α} {t i : Nat} {x : α} (h : x ∈ (xs.take i).drop t) : ∃ n, t ≤ n ∧ n < i ∧ xs[n]? = some x := by
  obtain ⟨n, e, hl⟩ := mem_drop h
  rw [List.length_take] at hl
  refine ⟨t + n, by omega, by omega, ?_⟩
  rw [List.getElem?_take_of_lt (by omega)] at e
  exact e
theorem mem_tk {xs : List α} {i : Nat} {x : α} (h : x ∈ xs.take i) : ∃ n, n < i ∧ xs[n]? = some x := by
  obtain ⟨n, hn, e⟩ := List.getElem_of_mem h
  have hl := hn
  rw [List.length_take] at hl
  rw [List.getElem_take] at e
  exact ⟨n, by omega, List.getElem?_eq_some_iff.mpr ⟨by omega, e⟩⟩
end
theorem ext0 (a : Array Keyed) (i : Nat) : (a.extract 0 i).toList = a.toList.take i := by rw [extract_list, List.drop_zero, Nat.sub_zero]
theorem dh_list (a b out : Array Keyed) (na nb : Nat) : (dh a b out na nb).toList = a.toList.take na ++ b.toList.take nb ++ out.toList.reverse := by
  unfold dh
  rw [Array.toList_append, Array.toList_append, ext0, ext0, Array.toList_reverse]
theorem fh_list (a b out : Array Keyed) (na nb : Nat) : (fh a b out na nb).toList = b.toList.take nb ++ a.toList.take na ++ out.toList.reverse := by
  unfold fh
  rw [Array.toList_append, Array.toList_append, ext0, ext0, Array.toList_reverse]
theorem rev_push (out : Array Keyed) (x : Keyed) : (out.push x).toList.reverse = x :: out.toList.reverse := by rw [Array.toList_push, List.reverse_append]; rfl
theorem rev_ext (out a : Array Keyed) (t i : Nat) : (out ++ (a.extract t i).reverse).toList.reverse = (a.toList.take i).drop t ++ out.toList.reverse := by
  rw [Array.toList_append, Array.toList_reverse, List.reverse_append, List.reverse_reverse, extract_list, List.drop_take]
theorem rev_size (out a : Array Keyed) (t i : Nat) (h : i ≤ a.size) : (out ++ (a.extract t i).reverse).size = out.size + (i - t) := by
  rw [Array.size_append, Array.size_reverse, Array.size_extract]
  omega
variable {M : Model} {A : Around} {E : Value → Shared → Prop} {s : Shared} {kd : SortKind} {D : Keyed → Prop} {less : Keyed → Keyed → Bool} {a b : Array Keyed}
abbrev HS (less : Keyed → Keyed → Bool) (a b out : Array Keyed) (na nb : Nat) : Prop := MSR (leq less) a.toList b.toList out.toList.reverse na nb
structure HI (less : Keyed → Keyed → Bool) (a b out : Array Keyed) (na nb : Nat) : Prop where
  m : HS less a b out na nb
  l1 : 0 < na
  l2 : na < a.size
  l3 : 1 < nb
  l4 : nb ≤ b.size
  sz : out.size + na + nb = a.size + b.size
theorem le_take (C : Cmp M A E s kd D less) {l : List Keyed} (sl : l.Pairwise (leq less)) (dl : ∀ x ∈ l, D x) {i : Nat} {x r : Keyed} (h : l[i]? = some x) (hr : r ∈ l.take (i + 1)) : leq less r x := by
  obtain ⟨n, hn, e⟩ := mem_tk hr
  rcases Nat.lt_or_ge n i with z | z
  · exact pw_get sl z e h
  · have : n = i := by omega
    subst this
    rw [h] at e; cases e
    exact C.irr x (dl x (List.mem_of_getElem? h))
theorem pushA (T : Two D less a b) {out : Array Keyed} {na nb : Nat} {x : Keyed} (m : HS less a b out (na + 1) nb) (hx : a.toList[na]? = some x) (h : ∀ r ∈ b.toList.take nb, leq less r x) : HS less a b (out.push x) na nb := by
  have := m.takeA T.sa (t := na) (by omega) (by rw [last_one hx]; intro z hz r hr; rw [List.mem_singleton.mp hz]; exact h r hr)
  rw [last_one hx] at this
  unfold HS
  rw [rev_push]
  exact this
theorem pushB (T : Two D less a b) {out : Array Keyed} {na nb : Nat} {y : Keyed} (m : HS less a b out na (nb + 1)) (hy : b.toList[nb]? = some y) (h : ∀ r ∈ a.toList.take na, leq less r y) : HS less a b (out.push y) na nb := by
  have := m.takeB T.sb (t := nb) (by omega) (by rw [last_one hy]; intro z hz r hr; rw [List.mem_singleton.mp hz]; exact h r hr)
  rw [last_one hy] at this
  unfold HS
  rw [rev_push]
  exact this
theorem hend_a (T : Two D less a b) {out : Array Keyed} {na nb : Nat} (m : HS less a b out na nb) (h : (na == 0) = true) : RR less a b (dh a b out na nb) := by
  unfold RR
  rw [dh_list]
  exact m.doneA T.sb (beq_iff_eq.mp h)
theorem hend_b (T : Two D less a b) {out : Array Keyed} {na nb : Nat} (m : HS less a b out na nb) (h : (nb == 0) = true) : RR less a b (dh a b out na nb) := by
  unfold RR
  rw [dh_list]
  exact m.doneB T.sa (beq_iff_eq.mp h)
theorem hend_f (T : Two D less a b) {out : Array Keyed} {na nb : Nat} (m : HS less a b out na nb) (h : (nb == 1) = true) : RR less a b (fh a b out na nb) := by
  unfold RR
  rw [fh_list]
  refine m.first T.sa T.sb fun r hr x hx => ?_
  obtain ⟨n, hn, e⟩ := mem_tk hr
  have h1 := beq_iff_eq.mp h
  have : n = 0 := by omega
  subst this
  exact T.fst x (List.mem_of_mem_take hx) r e
end TS

namespace TS
open PySem PyProof.Rows
variable {M : Model} {A : Around} {E : Value → Shared → Prop} {s : Shared} {kd : SortKind} {D : Keyed → Prop} {less : Keyed → Keyed → Bool} {a b : Array Keyed}
/-- a private function of the model, opened where it stands -/
local macro_rules | `(tactic| walk_at "open mergeHi") => do
  let n := Lean.mkIdent (.str (.str (.str (.num (.str (.str (.str (.str (.str .anonymous "_private") "PySem") "Builtin") "List") "W1All") 0) "PySem") "Builtin") "mergeHi")
  `(tactic| delta $n:ident)
theorem wp_mergeHi (C : Cmp M A E s kd D less) (T : Two D less a b) {st : SortSt} {Q : Array Keyed → SortSt → Prop} (hk : kindOf st = kd) (q : ∀ r st', SG st st' → RR less a b r → Q r st') : wpS M A E s (mergeHi' a b) Q st := by
  have na := T.na
  have nb := T.nb
  obtain ⟨x, hx, lx⟩ := arr_get (show a.size - 1 < a.size by omega)
  have m : HS less a b #[x] (a.size - 1) b.size := by
    have m0 : HS less a b #[] (a.size - 1 + 1) b.size := by
      rw [show a.size - 1 + 1 = a.size by omega]
      refine ⟨?_, by simp, fun x hx => by simp at hx⟩
      rw [List.take_of_length_le (by rw [Array.length_toList]; exact Nat.le_refl _), List.take_of_length_le (by rw [Array.length_toList]; exact Nat.le_refl _)]
      simp
    exact pushA T m0 lx fun r hr => T.lst r (List.mem_of_mem_take hr) x lx
  unfold mergeHi'
  walk_at "open mergeHi"
  refine wpS_bind (wp_rule (wpS_bind (wp_elem hx ?_)))
  dsimp only
  by_cases h1 : (a.size - 1 == 0) = true
  · rw [if_pos h1]
    exact wpS_pure (q _ _ (.refl st) (hend_a T m h1))
  rw [if_neg h1]
  by_cases h2 : (b.size == 1) = true
  · rw [if_pos h2]
    exact wpS_pure (q _ _ (.refl st) (hend_f T m h2))
  rw [if_neg h2]
  have h1 : a.size - 1 ≠ 0 := fun z => h1 (beq_iff_eq.mpr z)
  have h2 : b.size ≠ 1 := fun z => h2 (beq_iff_eq.mpr z)
  have I : HI less a b #[x] (a.size - 1) b.size := ⟨m, by omega, by omega, by omega, Nat.le_refl _, by show 1 + (a.size - 1) + b.size = _; omega⟩
  -- round upon round
  refine wpS_bind (wpS_get (wpS_bind (wpS_mono (wpS_forRange (fun n (c : H3) st' => SG st st' ∧ c.1 = none ∧ HI less a b c.2.2.2.1 c.2.1 c.2.2.1 ∧ n < c.2.2.2.1.size) (Q := fun c st' => SG st st' ∧ ∃ r, c.1 = some r ∧ RR less a b r) ?_ ?_ ⟨.refl st, rfl, I, by show 0 < 1; decide⟩) ?_)))
  rotate_left
  · rintro ⟨c1, i, j, o, mg⟩ st' ⟨g1, e1, I1, s1⟩
    have s1 : max 0 (a.size + b.size) < o.size := s1
    have := I1.sz
    have := I1.l1
    dsimp only at *
    omega
  · rintro ⟨c1, i, j, o, mg⟩ st' ⟨g1, r, e1, h⟩
    obtain rfl : c1 = some r := e1
    exact wpS_pure (q _ _ g1 h)
  clear I m h1 h2 hx lx
  rintro n ⟨c1, ia, ib, out, mg⟩ st' _ hn' ⟨hg, e1, I, so⟩
  obtain rfl : c1 = none := e1
  replace so : n < out.size := so
  -- one by one
  refine wpS_bind (wpS_mono (wpS_forRange (fun n (c : H1) st' => SG st st' ∧ c.1 = none ∧ HI less a b c.2.2.2.1 c.2.1 c.2.2.1 ∧ out.size + (if n = 0 then 0 else 1) ≤ c.2.2.2.1.size) (Q := fun c st' => SG st st' ∧ ((∃ r, c.1 = some r ∧ RR less a b r) ∨ (c.1 = none ∧ HI less a b c.2.2.2.1 c.2.1 c.2.2.1 ∧ out.size < c.2.2.2.1.size))) ?_ ?_ ⟨hg, rfl, I, by simp⟩) ?_)
  · rintro n ⟨c1, i, j, o, ac, bc⟩ st' _ hn' ⟨g1, e1, I1, s1⟩
    obtain rfl : c1 = none := e1
    have s1 : out.size + (if n = 0 then 0 else 1) ≤ o.size := s1
    have s2 : out.size ≤ o.size := by split at s1 <;> omega
    have on : ∀ (o' : Array Keyed), o'.size = o.size + 1 → out.size < o'.size ∧ out.size + (if n + 1 = 0 then 0 else 1) ≤ o'.size := fun o' hs => ⟨by omega, by rw [if_neg (by omega)]; omega⟩
    obtain ⟨m, l1, l2, l3, l4, sz⟩ := I1
    dsimp only at m l1 l2 l3 l4 sz
    obtain ⟨i, rfl⟩ : ∃ k, i = k + 1 := ⟨i - 1, by omega⟩
    obtain ⟨j, rfl⟩ : ∃ k, j = k + 1 := ⟨j - 1, by omega⟩
    obtain ⟨y, hy, ly⟩ := arr_get (show j < b.size by omega)
    obtain ⟨x, hx, lx⟩ := arr_get (show i < a.size by omega)
    have dx := T.da x (mem_of_get lx)
    have dy := T.db y (mem_of_get ly)
    dsimp only
    simp only [Nat.add_sub_cancel]
    refine wpS_bind (wp_elem hy (wpS_bind (wp_elem hx (wpS_bind (C.ans y x st' _ dy dx (g1.kind.trans hk) ?_)))))
    cases hw : less y x with
    | true =>
      dsimp only
      rw [if_pos rfl]
      have m' := pushA T m lx fun r hr => leq_trans C (T.db r (List.mem_of_mem_take hr)) dy dx (le_take C T.sb T.db ly hr) (C.asy y x dy dx hw)
      refine wpS_bind (wp_elem hx ?_)
      by_cases he : (i == 0) = true
      · rw [if_pos he]
        exact wpS_pure ⟨g1, .inl ⟨_, rfl, hend_a T m' he⟩⟩
      · rw [if_neg he]
        have he : i ≠ 0 := fun z => he (beq_iff_eq.mpr z)
        have I' : HI less a b (o.push x) i (j + 1) := ⟨m', by omega, by omega, l3, l4, by rw [Array.size_push]; omega⟩
        have h2 := on _ (Array.size_push (xs := o) x)
        split
        · exact wpS_pure ⟨g1, .inr ⟨rfl, I', h2.1⟩⟩
        · exact wpS_pure ⟨g1, rfl, I', h2.2⟩
    | false =>
      dsimp only
      rw [if_neg Bool.false_ne_true]
      have m' := pushB T m ly fun r hr => leq_trans C (T.da r (List.mem_of_mem_take hr)) dx dy (le_take C T.sa T.da lx hr) hw
      refine wpS_bind (wp_elem hy ?_)
      by_cases he : (j == 1) = true
      · rw [if_pos he]
        exact wpS_pure ⟨g1, .inl ⟨_, rfl, hend_f T m' he⟩⟩
      · rw [if_neg he]
        have he : j ≠ 1 := fun z => he (beq_iff_eq.mpr z)
        have I' : HI less a b (o.push y) (i + 1) j := ⟨m', by omega, l2, by omega, by omega, by rw [Array.size_push]; omega⟩
        have h2 := on _ (Array.size_push (xs := o) y)
        split
        · exact wpS_pure ⟨g1, .inr ⟨rfl, I', h2.1⟩⟩
        · exact wpS_pure ⟨g1, rfl, I', h2.2⟩
  · rintro ⟨c1, i, j, o, ac, bc⟩ st' ⟨g1, e1, I1, s1⟩
    refine ⟨g1, .inr ⟨e1, I1, ?_⟩⟩
    have s1 : out.size + (if max 0 (a.size + b.size) = 0 then 0 else 1) ≤ o.size := s1
    rw [if_neg (by omega)] at s1
    exact s1
  rintro ⟨c1, i, j, o, ac, bc⟩ st' ⟨g1, ⟨r, e1, h⟩ | ⟨e1, I1, s1⟩⟩
  · obtain rfl : c1 = some r := e1
    exact wpS_pure ⟨g1, r, rfl, h⟩
  obtain rfl : c1 = none := e1
  replace s1 : out.size < o.size := s1
  dsimp only
  -- by leaps
  refine wpS_bind (wp_rule (wpS_bind (wpS_mono (wpS_forRange (fun n (c : H2) st' => SG st st' ∧ c.1 = none ∧ HI less a b c.2.2.2.1 c.2.1 c.2.2.1 ∧ out.size < c.2.2.2.1.size) (Q := fun c st' => SG st st' ∧ ((∃ r, c.1 = some r ∧ RR less a b r) ∨ (c.1 = none ∧ HI less a b c.2.2.2.1 c.2.1 c.2.2.1 ∧ out.size < c.2.2.2.1.size))) ?_ ?_ ⟨g1, rfl, I1, s1⟩) ?_)))
  rotate_left
  · rintro ⟨c1, i, j, o, mg, ac, bc⟩ st' ⟨g1, e1, I1, s1⟩
    exact ⟨g1, .inr ⟨e1, I1, s1⟩⟩
  · rintro ⟨c1, i, j, o, mg, ac, bc⟩ st' ⟨g1, ⟨r, e1, h⟩ | ⟨e1, I1, s1⟩⟩
    · obtain rfl : c1 = some r := e1
      exact wpS_pure ⟨g1, r, rfl, h⟩
    · obtain rfl : c1 = none := e1
      dsimp only
      have s1 : out.size < o.size := s1
      exact wpS_bind (wp_setMin (wpS_pure ⟨g1.set _, rfl, I1, by show n + 1 < o.size; omega⟩))
  clear I1 s1 g1 I hg
  rintro n2 ⟨c1, i, j, o, mg2, ac2, bc2⟩ st' _ hn2 ⟨g1, e1, I1, s1⟩
  obtain rfl : c1 = none := e1
  replace s1 : out.size < o.size := s1
  obtain ⟨m, l1, l2, l3, l4, sz⟩ := I1
  dsimp only at m l1 l2 l3 l4 sz
  obtain ⟨j, rfl⟩ : ∃ k, j = k + 1 := ⟨j - 1, by omega⟩
  obtain ⟨y, hy, ly⟩ := arr_get (show j < b.size by omega)
  have dy := T.db y (mem_of_get ly)
  dsimp only
  simp only [Nat.add_sub_cancel]
  by_cases hmg : mg2 > 1
  case' pos =>
    rw [if_pos hmg]
    generalize mg2 - 1 = mgn
  case' neg =>
    rw [if_neg hmg]
    generalize mg2 = mgn
  all_goals
    have g2 := g1.set mgn
    have hk2 := g2.kind.trans hk
    refine wpS_bind (wp_setMin (wpS_bind (wp_elem hy (wpS_bind (wp_leap C (st := setGallop st' mgn) hk2 dy T.sa T.da (by omega) (by omega) fun t htn k1 k2 => ?_)))))
    simp only [Bool.false_eq_true, if_false, Bool.not_eq_true', Bool.not_eq_false', Nat.zero_add] at k1 k2
    dsimp only
    have m2 := m.takeA T.sa htn fun z hz r hr => by
      obtain ⟨n, hn1, hn2, e⟩ := mem_cut hz
      have dz := T.da z (List.mem_of_getElem? e)
      exact leq_trans C (T.db r (List.mem_of_mem_take hr)) dy dz (le_take C T.sb T.db ly hr) (C.asy y z dy dz (k2 n z hn1 hn2 e))
    have ab1 : ∀ r ∈ a.toList.take t, leq less r y := fun r hr => by
      obtain ⟨n, hn, e⟩ := mem_tk hr
      exact k1 n r hn e
    by_cases h0 : i - t > 0
    case' pos =>
      rw [if_pos h0]
      have m3 : HS less a b (o ++ (a.extract t i).reverse) t (j + 1) := by
        unfold HS
        rw [rev_ext]
        exact m2
      have zo := rev_size o a t i (by omega)
      by_cases he : (t == 0) = true
      · rw [if_pos he]
        exact wpS_pure ⟨g2, .inl ⟨_, rfl, hend_a T m3 he⟩⟩
      rw [if_neg he]
      have t0 : 0 < t := Nat.pos_of_ne_zero fun z => he (beq_iff_eq.mpr z)
      have t1 : t < a.size := by omega
      have zs : (o ++ (a.extract t i).reverse).size + t + (j + 1) = a.size + b.size := by omega
      have zl : out.size < (o ++ (a.extract t i).reverse).size := by omega
      generalize o ++ (a.extract t i).reverse = o1 at m3 zs zl ⊢
    case' neg =>
      rw [if_neg h0]
      obtain rfl : t = i := by omega
      have m3 := m
      have t0 : 0 < t := l1
      have t1 : t < a.size := l2
      have zs := sz
      have zl := s1
      generalize o = o1 at m3 zs zl ⊢
    all_goals
      refine wpS_bind (wp_elem hy ?_)
      have m4 := pushB T m3 ly ab1
      by_cases he2 : (j == 1) = true
      · rw [if_pos he2]
        exact wpS_pure ⟨g2, .inl ⟨_, rfl, hend_f T m4 he2⟩⟩
      rw [if_neg he2]
      have he2 : j ≠ 1 := fun z => he2 (beq_iff_eq.mpr z)
      obtain ⟨t, rfl⟩ : ∃ k, t = k + 1 := ⟨t - 1, by omega⟩
      obtain ⟨x, hx, lx⟩ := arr_get (show t < a.size by omega)
      have dx := T.da x (mem_of_get lx)
      simp only [Nat.add_sub_cancel]
      refine wpS_bind (wp_elem hx (wpS_bind (wp_leap C (st := setGallop st' mgn) hk2 dx T.sb T.db (by omega) (by omega) fun t' htn' k1 k2 => ?_)))
      simp only [if_true, Nat.zero_add] at k1 k2
      dsimp only
      have m5 := m4.takeB T.sb htn' fun z hz r hr => by
        obtain ⟨n, hn1, hn2, e⟩ := mem_cut hz
        have dz := T.db z (List.mem_of_getElem? e)
        exact leq_trans C (T.da r (List.mem_of_mem_take hr)) dx dz (le_take C T.sa T.da lx hr) (k2 n z hn1 hn2 e)
      have ab2 : ∀ r ∈ b.toList.take t', leq less r x := fun r hr => by
        obtain ⟨n, hn, e⟩ := mem_tk hr
        exact C.asy r x (T.db r (List.mem_of_getElem? e)) dx (k1 n r hn e)
      by_cases h0' : j - t' > 0
      case' pos =>
        rw [if_pos h0']
        have m6 : HS less a b (o1.push y ++ (b.extract t' j).reverse) (t + 1) t' := by
          unfold HS
          rw [rev_ext]
          exact m5
        have zo := rev_size (o1.push y) b t' j (by omega)
        rw [Array.size_push] at zo
        by_cases he3 : (t' == 1) = true
        · rw [if_pos he3]
          exact wpS_pure ⟨g2, .inl ⟨_, rfl, hend_f T m6 he3⟩⟩
        rw [if_neg he3]
        by_cases he4 : (t' == 0) = true
        · rw [if_pos he4]
          exact wpS_pure ⟨g2, .inl ⟨_, rfl, hend_b T m6 he4⟩⟩
        rw [if_neg he4]
        have he3 : t' ≠ 1 := fun z => he3 (beq_iff_eq.mpr z)
        have he4 : t' ≠ 0 := fun z => he4 (beq_iff_eq.mpr z)
        have u1 : 1 < t' := by omega
        have u2 : t' ≤ b.size := by omega
        have us : (o1.push y ++ (b.extract t' j).reverse).size + (t + 1) + t' = a.size + b.size := by omega
        have ul : out.size < (o1.push y ++ (b.extract t' j).reverse).size := by omega
        generalize o1.push y ++ (b.extract t' j).reverse = o2 at m6 us ul ⊢
      case' neg =>
        rw [if_neg h0']
        obtain rfl : t' = j := by omega
        have m6 := m4
        have u1 : 1 < t' := by omega
        have u2 : t' ≤ b.size := by omega
        have us : (o1.push y).size + (t + 1) + t' = a.size + b.size := by rw [Array.size_push]; omega
        have ul : out.size < (o1.push y).size := by rw [Array.size_push]; omega
        generalize o1.push y = o2 at m6 us ul ⊢
      all_goals
        refine wpS_bind (wp_elem hx ?_)
        have m7 := pushA T m6 lx ab2
        by_cases he5 : (t == 0) = true
        · rw [if_pos he5]
          exact wpS_pure ⟨g2, .inl ⟨_, rfl, hend_a T m7 he5⟩⟩
        rw [if_neg he5]
        have he5 : t ≠ 0 := fun z => he5 (beq_iff_eq.mpr z)
        have I' : HI less a b (o2.push x) t t' := ⟨m7, by omega, by omega, u1, u2, by rw [Array.size_push]; omega⟩
        have hl : out.size < (o2.push x).size := by rw [Array.size_push]; omega
        split
        · exact wpS_pure ⟨g2, .inr ⟨rfl, I', hl⟩⟩
        · exact wpS_pure ⟨g2, rfl, I', hl⟩
end TS

namespace TS
open PySem PyProof.Rows
variable {M : Model} {A : Around} {E : Value → Shared → Prop} {s : Shared} {kd : SortKind} {D : Keyed → Prop} {less : Keyed → Keyed → Bool}
/-- a private function of the model, opened where it stands -/
local macro_rules | `(tactic| walk_at "open mergeAt") => do
  let n := Lean.mkIdent (.str (.str (.str (.num (.str (.str (.str (.str (.str .anonymous "_private") "PySem") "Builtin") "List") "W1All") 0) "PySem") "Builtin") "mergeAt")
  `(tactic| delta $n:ident)
/-- a leap over a part that is sorted -/
theorem wp_leapS (C : Cmp M A E s kd D less) {left : Bool} {key : Keyed} {arr : Array Keyed} {base n hint : Nat} {X : List Keyed} {Q : Option Nat → SortSt → Prop} {st : SortSt} (hk : kindOf st = kd) (hd : D key) (hX : ∀ i, i < n → arr.toList[base + i]? = X[i]?) (hn : X.length = n) (sl : X.Pairwise (leq less)) (dl : ∀ x ∈ X, D x) (hh : hint < n)
    (q : ∀ k, k ≤ n → (∀ x ∈ X.take k, (if left then less x key else !less key x) = true) → (∀ x ∈ X.drop k, (if left then less x key else !less key x) = false) → Q (some k) st) : wpS M A E s (gallop' left key arr base n hint) Q st := by
  have at' : ∀ i, i < n → ∃ x, X[i]? = some x ∧ arr.toList[base + i]? = some x := fun i hi => ⟨X[i], List.getElem?_eq_getElem (by omega), by rw [hX i hi]; exact List.getElem?_eq_getElem (by omega)⟩
  refine wp_gallop C hk hd (fun i hi => ?_) (fun i j hij hj hbj => ?_) hh fun k k1 k2 k3 => q k k1 (fun x hx => ?_) (fun x hx => ?_)
  · obtain ⟨x, h1, h2⟩ := at' i hi
    exact ⟨x, by rw [← Array.getElem?_toList]; exact h2, dl x (List.mem_of_getElem? h1)⟩
  · obtain ⟨x, h1, lx⟩ := at' i (by omega)
    obtain ⟨y, h2, ly⟩ := at' j hj
    rw [byd_at ly] at hbj
    rw [byd_at lx]
    have dx := dl x (List.mem_of_getElem? h1)
    have dy := dl y (List.mem_of_getElem? h2)
    have hxy : leq less x y := by
      rcases Nat.lt_or_ge i j with h | h
      · exact pw_get sl h h1 h2
      · have : i = j := by omega
        subst this
        rw [h1] at h2; cases h2
        exact C.irr x dx
    cases left with
    | true =>
      simp only [if_true] at hbj ⊢
      cases hz : less x key with
      | true => rfl
      | false => rw [C.tr key x y hd dx dy hz hxy] at hbj; cases hbj
    | false =>
      simp only [Bool.false_eq_true, if_false, Bool.not_eq_true'] at hbj ⊢
      exact C.tr x y key dx dy hd hxy hbj
  · obtain ⟨i, hi, e⟩ := mem_tk hx
    rw [← byd_at (base := base) (arr := arr) (i := i) (by rw [hX i (by omega)]; exact e)]
    exact k2 i hi
  · obtain ⟨i, e, hl⟩ := mem_drop hx
    rw [← byd_at (base := base) (arr := arr) (i := k + i) (by rw [hX (k + i) (by omega)]; exact e)]
    exact k3 (k + i) (by omega) (by omega)
theorem write_at : ∀ (m : List Keyed) (base n : Nat) (arr : Array Keyed) (P B R : List Keyed), arr.toList = P ++ B ++ R → P.length = base + n → B.length = m.length →
    ((m.zipIdx n).foldl (fun (a : Array Keyed) (p : Keyed × Nat) => a.setIfInBounds (base + p.2) p.1) arr).toList = P ++ m ++ R
  | [], base, n, arr, P, B, R, e, h1, h2 => by
    rw [List.length_nil, List.length_eq_zero_iff] at h2
    subst h2
    exact e
  | p :: m, base, n, arr, P, [], R, e, h1, h2 => by simp at h2
  | p :: m, base, n, arr, P, b :: B, R, e, h1, h2 => by
    rw [List.zipIdx_cons, List.foldl_cons]
    have e2 : (arr.setIfInBounds (base + n) p).toList = (P ++ [p]) ++ B ++ R := by
      rw [Array.toList_setIfInBounds, e, ← h1]
      simp [List.set_append]
    rw [write_at m base (n + 1) _ (P ++ [p]) B R e2 (by rw [List.length_append, h1]; rfl) (by simpa using h2)]
    simp
theorem wp_mergeAt (C : Cmp M A E s kd D less) {i sa na nb sb pw pw2 : Nat} {st : SortSt} {P X Y R : List Keyed} {Q : Bool → SortSt → Prop} (hk : kindOf st = kd) (hf : failedOf st = none) (h1 : (pendingOf st)[i]? = some (sa, na, pw)) (h2 : (pendingOf st)[i + 1]? = some (sb, nb, pw2))
    (hL : (arrOf st).toList = P ++ X ++ Y ++ R) (hP : P.length = sa) (hX : X.length = na) (hY : Y.length = nb) (hsb : sb = sa + na) (na0 : 0 < na) (nb0 : 0 < nb) (sX : X.Pairwise (leq less)) (sY : Y.Pairwise (leq less)) (dX : ∀ x ∈ X, D x) (dY : ∀ x ∈ Y, D x)
    (q : ∀ (Z : List Keyed) (arr' : Array Keyed) (g : Nat), Z.Perm (X ++ Y) → Z.Pairwise (leq less) → arr'.toList = P ++ Z ++ R → Q true (SortSt.mk' (kindOf st) arr' (((pendingOf st).setIfInBounds i (sa, na + nb, pw)).eraseIdxIfInBounds (i + 1)) g none)) : wpS M A E s (mergeAt' i) Q st := by
  subst hsb
  have atX : ∀ j, j < na → (arrOf st).toList[sa + j]? = X[j]? := fun j hj => by
    rw [hL, List.append_assoc, List.append_assoc, List.getElem?_append_right (by omega), List.getElem?_append_left (by omega), hP, Nat.add_sub_cancel_left]
  have atY : ∀ j, j < nb → (arrOf st).toList[sa + na + j]? = Y[j]? := fun j hj => by
    rw [hL, List.append_assoc, List.getElem?_append_right (by rw [List.length_append]; omega), List.getElem?_append_left (by rw [List.length_append]; omega)]
    congr 1
    rw [List.length_append]; omega
  obtain ⟨y0, hy0⟩ : ∃ y, Y[0]? = some y := ⟨Y[0], List.getElem?_eq_getElem (by omega)⟩
  obtain ⟨xl, hxl⟩ : ∃ x, X[na - 1]? = some x := ⟨X[na - 1], List.getElem?_eq_getElem (by omega)⟩
  have dy0 := dY y0 (List.mem_of_getElem? hy0)
  have dxl := dX xl (List.mem_of_getElem? hxl)
  have y0le : ∀ y ∈ Y, leq less y0 y := fun y hy => le_drop C sY dY hy0 (by simpa using hy)
  have lexl : ∀ x ∈ X, leq less x xl := fun x hx => le_take C sX dX hxl (by rw [show na - 1 + 1 = na by omega, List.take_of_length_le (by omega)]; exact hx)
  have ey0 : (arrOf st)[sa + na]? = some y0 := by rw [← Array.getElem?_toList]; have := atY 0 nb0; rw [Nat.add_zero] at this; rw [this]; exact hy0
  unfold mergeAt'
  walk_at "open mergeAt"
  refine wpS_bind (wpS_get ?_)
  dsimp only
  have h1' := h1
  have h2' := h2
  dsimp only [pendingOf] at h1' h2'
  rw [h1', h2']
  dsimp only
  refine wpS_bind (wpS_modify (f := fun _ => setPending st (((pendingOf st).setIfInBounds i (sa, na + nb, pw)).eraseIdxIfInBounds (i + 1))) ?_)
  -- what is sorted already
  have keepZ : (X ++ Y).Pairwise (leq less) → Q true (setPending st (((pendingOf st).setIfInBounds i (sa, na + nb, pw)).eraseIdxIfInBounds (i + 1))) := fun hs => by
    have := q (X ++ Y) (arrOf st) (gallopOf st) (List.Perm.refl _) hs (by rw [hL, List.append_assoc P X Y])
    rw [← hf] at this
    exact this
  refine wpS_bind (wp_elem ey0 (wpS_bind (wp_leapS C (left := false) (st := setPending st _) hk dy0 atX hX sX dX na0 fun k hkn k1 k2 => ?_)))
  simp only [Bool.false_eq_true, if_false, Bool.not_eq_true', Bool.not_eq_false'] at k1 k2
  dsimp only
  by_cases e0 : (na - k == 0) = true
  · rw [if_pos e0]
    have e0 := beq_iff_eq.mp e0
    have : k = na := by omega
    subst this
    refine wpS_pure (keepZ ?_)
    rw [List.pairwise_append]
    refine ⟨sX, sY, fun x hx y hy => leq_trans C (dX x hx) dy0 (dY y hy) (k1 x (by rw [List.take_of_length_le (by omega)]; exact hx)) (y0le y hy)⟩
  · rw [if_neg e0]
    have e0 : na - k ≠ 0 := fun z => e0 (beq_iff_eq.mpr z)
    have exl : (arrOf st)[sa + k + (na - k) - 1]? = some xl := by
      rw [← Array.getElem?_toList, show sa + k + (na - k) - 1 = sa + (na - 1) by omega, atX _ (by omega)]
      exact hxl
    refine wpS_bind (wp_elem exl (wpS_bind (wp_leapS C (left := true) (st := setPending st _) hk dxl atY hY sY dY (by omega) fun t htn t1 t2 => ?_)))
    simp only [if_true] at t1 t2
    dsimp only
    by_cases e1 : (t == 0) = true
    · rw [if_pos e1]
      have e1 := beq_iff_eq.mp e1
      subst e1
      refine wpS_pure (keepZ ?_)
      rw [List.pairwise_append]
      refine ⟨sX, sY, fun x hx y hy => leq_trans C (dX x hx) dxl (dY y hy) (lexl x hx) (t2 y (by simpa using hy))⟩
    · rw [if_neg e1]
      have e1 : t ≠ 0 := fun z => e1 (beq_iff_eq.mpr z)
      have cx : ((arrOf st).extract (sa + k) (sa + na)).toList = X.drop k := by
        rw [extract_list, hL]
        refine List.ext_getElem? fun j => ?_
        by_cases hj : j < na - k
        · rw [List.getElem?_take_of_lt (by omega), List.getElem?_drop, ← hL, Nat.add_assoc, atX _ (by omega), List.getElem?_drop]
        · rw [List.getElem?_eq_none (by rw [List.length_take]; omega), List.getElem?_eq_none (by rw [List.length_drop]; omega)]
      have cy : ((arrOf st).extract (sa + na) (sa + na + t)).toList = Y.take t := by
        rw [extract_list, hL]
        refine List.ext_getElem? fun j => ?_
        by_cases hj : j < t
        · rw [List.getElem?_take_of_lt (by omega), List.getElem?_drop, ← hL, atY _ (by omega), List.getElem?_take_of_lt hj]
        · rw [List.getElem?_eq_none (by rw [List.length_take]; omega), List.getElem?_eq_none (by rw [List.length_take]; omega)]
      have sx : ((arrOf st).extract (sa + k) (sa + na)).size = na - k := by rw [← Array.length_toList, cx, List.length_drop, hX]
      have sy : ((arrOf st).extract (sa + na) (sa + na + t)).size = t := by rw [← Array.length_toList, cy, List.length_take, hY]; omega
      have T : Two D less ((arrOf st).extract (sa + k) (sa + na)) ((arrOf st).extract (sa + na) (sa + na + t)) := by
        refine ⟨by rw [cx]; exact sX.sublist (List.drop_sublist _ _), by rw [cy]; exact sY.sublist (List.take_sublist _ _), by rw [cx]; exact fun x hx => dX x (List.mem_of_mem_drop hx), by rw [cy]; exact fun x hx => dY x (List.mem_of_mem_take hx), by omega, by omega, ?_, ?_⟩
        · rw [cx, cy, sx]
          intro x hx z hz
          rw [List.getElem?_drop, show k + (na - k - 1) = na - 1 by omega, hxl] at hz
          cases hz
          exact C.asy x xl (dY x (List.mem_of_mem_take hx)) dxl (t1 x hx)
        · rw [cx, cy]
          intro x hx z hz
          rw [List.getElem?_take_of_lt (by omega), hy0] at hz
          cases hz
          exact C.asy y0 x dy0 (dX x (List.mem_of_mem_drop hx)) (k2 x hx)
      by_cases hle : na - k ≤ t
      case' pos =>
        rw [if_pos hle]
        refine wpS_bind (wp_mergeLo C T (st := setPending st _) hk fun r st' hg hr => ?_)
      case' neg =>
        rw [if_neg hle]
        refine wpS_bind (wp_mergeHi C T (st := setPending st _) hk fun r st' hg hr => ?_)
      all_goals
        obtain ⟨g, rfl⟩ := hg
        obtain ⟨rp, rs⟩ := hr
        rw [cx, cy] at rp
        refine wpS_bind (wpS_modify (wpS_bind (wpS_get (wpS_pure ?_))))
        have hlen : r.toList.length = na - k + t := by rw [rp.length_eq, List.length_append, List.length_drop, List.length_take, hX, hY]; omega
        have ew := write_at r.toList (sa + k) 0 (arrOf st) (P ++ X.take k) (X.drop k ++ Y.take t) (Y.drop t ++ R) (by
          rw [hL]
          have ex : X = X.take k ++ X.drop k := (List.take_append_drop k X).symm
          have ey : Y = Y.take t ++ Y.drop t := (List.take_append_drop t Y).symm
          conv => lhs; rw [ex, ey]
          simp only [List.append_assoc]) (by rw [List.length_append, List.length_take, hP, hX]; omega) (by rw [List.length_append, List.length_drop, List.length_take, hX, hY, hlen]; omega)
        have hm : ∀ x, x ∈ r.toList ↔ (x ∈ X.drop k ∨ x ∈ Y.take t) := fun x => by rw [rp.mem_iff, List.mem_append]
        have hq := q (X.take k ++ r.toList ++ Y.drop t) (r.toList.zipIdx.foldl (fun (a : Array Keyed) (p : Keyed × Nat) => a.setIfInBounds (sa + k + p.2) p.1) (arrOf st)) g ?_ ?_ ?_
        · show Q (failedOf st).isNone (SortSt.mk' (kindOf st) _ _ g (failedOf st))
          rw [hf]
          exact hq
        · have e : (X.take k ++ r.toList ++ Y.drop t).Perm (X.take k ++ (X.drop k ++ Y.take t) ++ Y.drop t) := List.Perm.append_right _ (List.Perm.append_left _ rp)
          refine e.trans (List.Perm.of_eq ?_)
          rw [← List.append_assoc, List.take_append_drop, List.append_assoc, List.take_append_drop]
        · rw [List.pairwise_append, List.pairwise_append]
          have dr : ∀ x ∈ r.toList, D x := fun x hx => ((hm x).mp hx).elim (fun z => dX x (List.mem_of_mem_drop z)) (fun z => dY x (List.mem_of_mem_take z))
          refine ⟨⟨sX.sublist (List.take_sublist _ _), rs, fun x hx z hz => ?_⟩, sY.sublist (List.drop_sublist _ _), fun x hx z hz => ?_⟩
          · have dx := dX x (List.mem_of_mem_take hx)
            rcases (hm z).mp hz with hz | hz
            · have := (List.take_append_drop k X) ▸ sX
              rw [List.pairwise_append] at this
              exact this.2.2 x hx z hz
            · exact leq_trans C dx dy0 (dY z (List.mem_of_mem_take hz)) (k1 x hx) (y0le z (List.mem_of_mem_take hz))
          · have dz := dY z (List.mem_of_mem_drop hz)
            have above : ∀ x ∈ X, leq less x z := fun x hx => leq_trans C (dX x hx) dxl dz (lexl x hx) (t2 z hz)
            rcases List.mem_append.mp hx with hx | hx
            · exact above x (List.mem_of_mem_take hx)
            · rcases (hm x).mp hx with hx | hx
              · exact above x (List.mem_of_mem_drop hx)
              · have := (List.take_append_drop t Y) ▸ sY
                rw [List.pairwise_append] at this
                exact this.2.2 x hx z hz
        · rw [ew]
          simp only [List.append_assoc]
end TS

namespace TS
open PySem PyProof.Rows
variable {M : Model} {A : Around} {E : Value → Shared → Prop} {s : Shared} {kd : SortKind} {D : Keyed → Prop} {less : Keyed → Keyed → Bool}
/-- the item at a place -/
def Kt (arr : Array Keyed) (i : Nat) : Keyed := (arr[i]?).getD (.none, .none)
theorem kt_get {arr : Array Keyed} {i : Nat} (h : i < arr.size) : arr[i]? = some (Kt arr i) := by unfold Kt; rw [Array.getElem?_eq_getElem h]; rfl
theorem kt_congr {x y : Array Keyed} {i j : Nat} (h : x[i]? = y[j]?) : Kt x i = Kt y j := by unfold Kt; rw [h]
theorem kt_mem {arr : Array Keyed} {i : Nat} (h : i < arr.size) : Kt arr i ∈ arr.toList := by
  have := kt_get h
  rw [← Array.getElem?_toList] at this
  exact List.mem_of_getElem? this
def Asc (less : Keyed → Keyed → Bool) (arr : Array Keyed) (lo hi : Nat) : Prop := ∀ i j, lo ≤ i → i < j → j < hi → leq less (Kt arr i) (Kt arr j)
def Dsc (less : Keyed → Keyed → Bool) (arr : Array Keyed) (lo hi : Nat) : Prop := ∀ i j, lo ≤ i → i < j → j < hi → leq less (Kt arr j) (Kt arr i)
/-- only what stands from lo to hi has been moved -/
structure AR (D : Keyed → Prop) (a0 : Array Keyed) (lo hi : Nat) (arr : Array Keyed) : Prop where
  perm : arr.Perm a0
  out : ∀ k, k < lo ∨ hi ≤ k → arr[k]? = a0[k]?
  dom : ∀ x ∈ a0.toList, D x
theorem AR.size {a0 arr : Array Keyed} {lo hi : Nat} (r : AR D a0 lo hi arr) : arr.size = a0.size := r.perm.size_eq
theorem AR.d {a0 arr : Array Keyed} {lo hi i : Nat} (r : AR D a0 lo hi arr) (h : i < a0.size) : D (Kt arr i) := r.dom _ ((Array.perm_iff_toList_perm.mp r.perm).mem_iff.mp (kt_mem (by rw [r.size]; exact h)))
theorem AR.mirror {a0 arr : Array Keyed} {lo hi i j : Nat} (r : AR D a0 lo hi arr) (hj : j ≤ hi) (hi' : lo ≤ i) (hs : hi ≤ a0.size) : AR D a0 lo hi (mirror arr i j ((j - i) / 2)) :=
  ⟨(mirror_perm ..).trans r.perm, fun k hk => by rw [getElem?_mirror_all (by rw [r.size]; omega), if_neg (by omega)]; exact r.out k hk, r.dom⟩
theorem AR.bubble {a0 arr : Array Keyed} {lo hi src d : Nat} (r : AR D a0 lo hi arr) (h1 : src < hi) (h2 : lo + d ≤ src) (hs : hi ≤ a0.size) : AR D a0 lo hi (bubble arr src d) :=
  ⟨(bubble_perm ..).trans r.perm, fun k hk => by rw [getElem?_bubble (by rw [r.size]; omega) _ (by omega), if_neg (by omega), if_neg (by omega)]; exact r.out k hk, r.dom⟩
theorem kt_mirror {arr : Array Keyed} {i j : Nat} (hj : j ≤ arr.size) (k : Nat) : Kt (mirror arr i j ((j - i) / 2)) k = if i ≤ k ∧ k < j then Kt arr (i + j - 1 - k) else Kt arr k := by
  split
  · exact kt_congr (by rw [getElem?_mirror_all hj, if_pos (by assumption)])
  · exact kt_congr (by rw [getElem?_mirror_all hj, if_neg (by assumption)])
theorem kt_bubble {arr : Array Keyed} {src d : Nat} (hs : src < arr.size) (hd : d ≤ src) (k : Nat) : Kt (bubble arr src d) k = if k = src - d then Kt arr src else if src - d < k ∧ k ≤ src then Kt arr (k - 1) else Kt arr k := by
  split
  · exact kt_congr (by rw [getElem?_bubble hs d hd, if_pos (by assumption)])
  · split
    · exact kt_congr (by rw [getElem?_bubble hs d hd, if_neg (by assumption), if_pos (by assumption)])
    · exact kt_congr (by rw [getElem?_bubble hs d hd, if_neg (by assumption), if_neg (by assumption)])
theorem wp_ltAt (C : Cmp M A E s kd D less) {a0 : Array Keyed} {lo hi i j : Nat} {st : SortSt} {Q : Option Bool → SortSt → Prop} (hk : kindOf st = kd) (r : AR D a0 lo hi (arrOf st)) (h1 : i < a0.size) (h2 : j < a0.size) (q : Q (some (less (Kt (arrOf st) i) (Kt (arrOf st) j))) st) : wpS M A E s (ltAt' i j) Q st := by
  rw [ltAt'_eq]
  refine wpS_bind (wpS_get (wpS_bind (wp_elem (kt_get (by rw [r.size]; exact h1)) (wpS_bind (wp_elem (kt_get (by rw [r.size]; exact h2)) ?_)))))
  exact C.ans _ _ st Q (r.d h1) (r.d h2) hk q
theorem wp_bin (C : Cmp M A E s kd D less) {lo n ok : Nat} {st : SortSt} {Q : Bool → SortSt → Prop} {a0 : Array Keyed} (hk : kindOf st = kd) (hn : lo + n ≤ a0.size) (hok : ok ≤ n) (r : AR D a0 lo (lo + n) (arrOf st)) (hs : Asc less (arrOf st) lo (lo + ok))
    (q : ∀ arr, AR D a0 lo (lo + n) arr → Asc less arr lo (lo + n) → Q true (setArr st arr)) : wpS M A E s (binarySort' lo n ok) Q st := by
  rw [binarySort'_eq]
  -- round by round one item more stands in its place
  refine wpS_bind (wpS_mono (wpS_forRange (I := fun k c st' => c = (none, ()) ∧ ∃ arr, st' = setArr st arr ∧ AR D a0 lo (lo + n) arr ∧ (k ≤ n → Asc less arr lo (lo + k)))
    (Q := fun c st' => c = (none, ()) ∧ ∃ arr, st' = setArr st arr ∧ AR D a0 lo (lo + n) arr ∧ Asc less arr lo (lo + n)) ?_ ?_ ⟨rfl, arrOf st, rfl, r, fun hle i j h1 h2 h3 => ?_⟩) ?_)
  rotate_left
  · rintro c st' ⟨hc, arr, e, r', hs'⟩
    have e2 : max (max ok 1) n = max 1 n := by omega
    rcases Nat.eq_zero_or_pos n with z | z
    · subst z
      exact ⟨hc, arr, e, r', fun i j h1 h2 h3 => by omega⟩
    · rw [e2, Nat.max_eq_right z] at hs'
      exact ⟨hc, arr, e, r', hs' (Nat.le_refl _)⟩
  · rcases Nat.eq_zero_or_pos ok with z | z
    · omega
    · exact hs i j h1 h2 (by omega)
  · rintro c st' ⟨rfl, arr, rfl, r', hs'⟩
    exact wpS_pure (q arr r' hs')
  rintro k c st' hak hkn ⟨rfl, arr, rfl, r', hs0⟩
  have hs' := hs0 (Nat.le_of_lt hkn)
  have dk := r'.d (i := lo + k) (by omega)
  have hks : lo + k < arr.size := by rw [r'.size]; omega
  -- its place is sought by halves: all ahead of l are no greater, all from u on are no less
  refine wpS_bind (wpS_mono (wpS_forRange (I := fun x (c : Option Bool × Nat × Nat) st2 => st2 = setArr st arr ∧ c.1 = none ∧ c.2.1 ≤ c.2.2 ∧ c.2.2 ≤ k ∧ c.2.2 + x ≤ k + c.2.1 ∧
      (∀ i, i < c.2.1 → leq less (Kt arr (lo + i)) (Kt arr (lo + k))) ∧ (∀ i, c.2.2 ≤ i → i < k → leq less (Kt arr (lo + k)) (Kt arr (lo + i))))
    (Q := fun c st2 => st2 = setArr st arr ∧ c.1 = none ∧ c.2.1 ≤ k ∧
      (∀ i, i < c.2.1 → leq less (Kt arr (lo + i)) (Kt arr (lo + k))) ∧ (∀ i, c.2.1 ≤ i → i < k → leq less (Kt arr (lo + k)) (Kt arr (lo + i)))) ?_ ?_ ⟨rfl, rfl, Nat.zero_le k, Nat.le_refl k, Nat.le_refl _, fun i hi => absurd hi (Nat.not_lt_zero i), fun i g1 g2 => absurd g2 (Nat.not_lt.mpr g1)⟩) ?_)
  · rintro x ⟨c1, l, u⟩ st2 _ hxk ⟨rfl, e1, hlu, huk, hm, hlow, hup⟩
    obtain rfl : c1 = none := e1
    dsimp only at hlu huk hm hlow hup ⊢
    rcases Nat.lt_or_ge l u with hlt | hge
    · rw [if_neg (by omega)]
      generalize hmid : (l + u) / 2 = mid
      have m1 : l ≤ mid := by omega
      have m2 : mid < u := by omega
      have dm := r'.d (i := lo + mid) (by omega)
      refine wpS_bind (wp_ltAt C (st := setArr st arr) hk r' (by omega) (by omega) ?_)
      cases hw : less (Kt arr (lo + k)) (Kt arr (lo + mid)) with
      | true =>
        have km := C.asy _ _ dk dm hw
        refine wpS_pure ⟨rfl, rfl, m1, by dsimp only; omega, by dsimp only; omega, hlow, fun i g1 g2 => ?_⟩
        rcases Nat.eq_or_lt_of_le g1 with z | z
        · exact z ▸ km
        · exact leq_trans C dk dm (r'.d (by omega)) km (hs' _ _ (Nat.le_add_right ..) (Nat.add_lt_add_left z lo) (by omega))
      | false =>
        refine wpS_pure ⟨rfl, rfl, m2, huk, by dsimp only; omega, fun i g1 => ?_, hup⟩
        rcases Nat.eq_or_lt_of_le (Nat.le_of_lt_succ g1) with z | z
        · exact z ▸ hw
        · exact leq_trans C (r'.d (by omega)) dm dk (hs' _ _ (Nat.le_add_right ..) (Nat.add_lt_add_left z lo) (by omega)) hw
    · rw [if_pos hge]
      obtain rfl : u = l := by omega
      exact wpS_pure ⟨rfl, rfl, huk, hlow, hup⟩
  · rintro ⟨c1, l, u⟩ st2 ⟨e, e1, hlu, huk, hm, hlow, hup⟩
    dsimp only at hlu huk hm hlow hup
    obtain rfl : u = l := by omega
    exact ⟨e, e1, huk, hlow, hup⟩
  · rintro ⟨c1, l, u⟩ st2 ⟨rfl, e1, hlk, hlow, hup⟩
    obtain rfl : c1 = none := e1
    dsimp only at hlk hlow hup
    show wpS _ _ _ _ (moveDown' (lo + k) (lo + l) >>= fun _ => _) _ _
    rw [moveDown'_eq]
    refine wpS_bind (wpS_modify (wpS_pure ⟨rfl, _, rfl, r'.bubble (by omega) (by omega) hn, fun _ i j h1 h2 h3 => ?_⟩))
    rw [kt_bubble hks (by omega), kt_bubble hks (by omega), show lo + k - (lo + k - (lo + l)) = lo + l by omega]
    have low' : ∀ i, lo ≤ i → i < lo + l → leq less (Kt arr i) (Kt arr (lo + k)) := fun i g1 g2 => by
      have z := hlow (i - lo) (by omega)
      rwa [Nat.add_sub_cancel' g1] at z
    have up' : ∀ i, lo + l ≤ i → i < lo + k → leq less (Kt arr (lo + k)) (Kt arr i) := fun i g1 g2 => by
      have z := hup (i - lo) (by omega) (by omega)
      rwa [Nat.add_sub_cancel' (by omega)] at z
    repeat' split
    all_goals first
      | (exfalso; omega)
      | exact hs' _ _ (by omega) (by omega) (by omega)
      | exact low' _ (by omega) (by omega)
      | exact up' _ (by omega) (by omega)
end TS

namespace TS
open PySem PyProof.Rows
variable {M : Model} {A : Around} {E : Value → Shared → Prop} {s : Shared} {kd : SortKind} {D : Keyed → Prop} {less : Keyed → Keyed → Bool} {a0 : Array Keyed} {lo nrem : Nat}
theorem AR.irr (C : Cmp M A E s kd D less) {hi i : Nat} {arr : Array Keyed} (r : AR D a0 lo hi arr) (h : i < a0.size) : leq less (Kt arr i) (Kt arr i) := C.irr _ (r.d h)
theorem Asc.snoc (C : Cmp M A E s kd D less) {hi n : Nat} {arr : Array Keyed} (r : AR D a0 lo hi arr) (h : Asc less arr lo n) (hn : n < a0.size) (hl : lo < n) (h2 : leq less (Kt arr (n - 1)) (Kt arr n)) : Asc less arr lo (n + 1) := fun i j h1 h3 h4 => by
  rcases Nat.lt_or_ge j n with z | z
  · exact h i j h1 h3 z
  · have : j = n := by omega
    subst this
    rcases Nat.lt_or_ge i (j - 1) with z | z
    · exact leq_trans C (r.d (by omega)) (r.d (by omega)) (r.d hn) (h i (j - 1) h1 z (by omega)) h2
    · have : i = j - 1 := by omega
      subst this; exact h2
theorem Dsc.snoc (C : Cmp M A E s kd D less) {hi n : Nat} {arr : Array Keyed} (r : AR D a0 lo hi arr) (h : Dsc less arr lo n) (hn : n < a0.size) (hl : lo < n) (h2 : leq less (Kt arr n) (Kt arr (n - 1))) : Dsc less arr lo (n + 1) := fun i j h1 h3 h4 => by
  rcases Nat.lt_or_ge j n with z | z
  · exact h i j h1 h3 z
  · have : j = n := by omega
    subst this
    rcases Nat.lt_or_ge i (j - 1) with z | z
    · exact leq_trans C (r.d hn) (r.d (by omega)) (r.d (by omega)) h2 (h i (j - 1) h1 z (by omega))
    · have : i = j - 1 := by omega
      subst this; exact h2
/-- a loop that goes on while the row rises, whatever its text is -/
theorem wp_asc (C : Cmp M A E s kd D less) {n0 : Nat} {st : SortSt} {Q : Option (Option Nat) × Nat → SortSt → Prop} {f : Nat → Option (Option Nat) × Nat → SM (ForInStep (Option (Option Nat) × Nat))} (hs : lo + nrem ≤ a0.size) (h1 : 1 ≤ n0) (hn : n0 ≤ nrem) (r : AR D a0 lo (lo + nrem) (arrOf st)) (ha : Asc less (arrOf st) lo (lo + n0))
    (hf : ∀ k c (Q : ForInStep (Option (Option Nat) × Nat) → SortSt → Prop), 1 ≤ c → c < nrem → (less (Kt (arrOf st) (lo + c)) (Kt (arrOf st) (lo + c - 1)) = true → Q (.done (none, c)) st) → (less (Kt (arrOf st) (lo + c)) (Kt (arrOf st) (lo + c - 1)) = false → Q (.yield (none, c + 1)) st) → wpS M A E s (f k (none, c)) Q st)
    (q : ∀ n, n0 ≤ n → n ≤ nrem → Asc less (arrOf st) lo (lo + n) → (n = nrem ∨ less (Kt (arrOf st) (lo + n)) (Kt (arrOf st) (lo + n - 1)) = true) → Q (none, n) st) : wpS M A E s (forIn [n0:nrem] ((none, n0) : Option (Option Nat) × Nat) f) Q st := by
  refine wpS_mono (wpS_forRange (fun k (c : Option (Option Nat) × Nat) st' => st' = st ∧ c = (none, k) ∧ Asc less (arrOf st) lo (lo + k)) (Q := fun c st' => st' = st ∧ ∃ n, c = (none, n) ∧ n0 ≤ n ∧ n ≤ nrem ∧ Asc less (arrOf st) lo (lo + n) ∧ (n = nrem ∨ less (Kt (arrOf st) (lo + n)) (Kt (arrOf st) (lo + n - 1)) = true)) ?_ ?_ ⟨rfl, rfl, ha⟩) ?_
  · rintro k c st' hk1 hk2 ⟨rfl, rfl, ha'⟩
    exact hf k k _ (by omega) hk2 (fun hw => ⟨rfl, k, rfl, hk1, Nat.le_of_lt hk2, ha', .inr hw⟩) fun hw => ⟨rfl, rfl, Asc.snoc C (n := lo + k) r ha' (by omega) (by omega) hw⟩
  · rintro c st' ⟨rfl, rfl, ha'⟩
    rw [show max n0 nrem = nrem by omega] at ha' ⊢
    exact ⟨rfl, nrem, rfl, hn, Nat.le_refl _, ha', .inl rfl⟩
  · rintro c st' ⟨rfl, n, rfl, g1, g2, g3, g4⟩
    exact q n g1 g2 g3 g4
theorem wp_rev {i j : Nat} {st : SortSt} {Q : Unit → SortSt → Prop} (q : Q () (setArr st (mirror (arrOf st) i j ((j - i) / 2)))) : wpS M A E s (reverseSlice' i j) Q st := by
  rw [reverseSlice'_eq]
  exact wpS_modify q
/-- the last e + 1 of a falling row are alike -/
def Eqs (less : Keyed → Keyed → Bool) (arr : Array Keyed) (n e : Nat) : Prop := ∀ i j, n - (e + 1) ≤ i → i < n → n - (e + 1) ≤ j → j < n → leq less (Kt arr i) (Kt arr j)
theorem dsc_rev {n e hi : Nat} {arr : Array Keyed} (r : AR D a0 lo hi arr) (hd : Dsc less arr lo n) (he : Eqs less arr n e) (hn : n ≤ a0.size) (hl : lo + (e + 1) ≤ n) : Dsc less (mirror arr (n - (e + 1)) n ((n - (n - (e + 1))) / 2)) lo n := fun i j h1 h2 h3 => by
  have hz : n ≤ arr.size := by rw [r.size]; exact hn
  rw [kt_mirror hz, kt_mirror hz]
  repeat' split
  all_goals first
    | (exfalso; omega)
    | exact he _ _ (by omega) (by omega) (by omega) (by omega)
    | exact hd _ _ (by omega) (by omega) (by omega)
theorem kt_rev_last {n e hi : Nat} {arr : Array Keyed} (r : AR D a0 lo hi arr) (hn : n < a0.size) : Kt (mirror arr (n - (e + 1)) n ((n - (n - (e + 1))) / 2)) n = Kt arr n := by
  rw [kt_mirror (by rw [r.size]; omega), if_neg (by omega)]
end TS

namespace TS
open PySem PyProof.Rows
variable {M : Model} {A : Around} {E : Value → Shared → Prop} {s : Shared} {kd : SortKind} {D : Keyed → Prop} {less : Keyed → Keyed → Bool} {a0 : Array Keyed} {lo nrem : Nat}
theorem one_eqs (C : Cmp M A E s kd D less) {arr : Array Keyed} {n hi : Nat} (r : AR D a0 lo hi arr) (hn : n ≤ a0.size) (h0 : 0 < n) : Eqs less arr n 0 := fun i j g1 g2 g3 g4 => by
  have e1 : i = n - 1 := by omega
  have e2 : j = n - 1 := by omega
  subst e1; subst e2
  exact C.irr _ (r.d (by omega))
/-- what is told of a row that is found: it rises -/
theorem wp_countRun (C : Cmp M A E s kd D less) {st : SortSt} {Q : Option Nat → SortSt → Prop} (hk : kindOf st = kd) (hs : lo + nrem ≤ a0.size) (h1 : 1 ≤ nrem) (r : AR D a0 lo (lo + nrem) (arrOf st))
    (q : ∀ n arr, 1 ≤ n → n ≤ nrem → AR D a0 lo (lo + nrem) arr → Asc less arr lo (lo + n) → Q (some n) (setArr st arr)) : wpS M A E s (countRun' lo nrem) Q st := by
  rw [countRun'_eq]
  refine wpS_bind (wp_asc C hs (Nat.le_refl _) h1 r (fun i j g1 g2 g3 => by omega) (fun k c Q c1 c2 q1 q2 => ?_) fun n n1 n2 n3 n4 => ?_)
  · dsimp only
    refine wpS_bind (wp_ltAt C hk r (by omega) (by omega) ?_)
    cases hw : less (Kt (arrOf st) (lo + c)) (Kt (arrOf st) (lo + c - 1)) with
    | true => exact wpS_pure (q1 hw)
    | false => exact wpS_pure (q2 hw)
  dsimp only
  by_cases he : (n == nrem) = true
  · rw [if_pos he]
    exact wpS_pure (q n (arrOf st) n1 n2 r n3)
  rw [if_neg he]
  have he : n ≠ nrem := fun z => he (beq_iff_eq.mpr z)
  have hsm : less (Kt (arrOf st) (lo + n)) (Kt (arrOf st) (lo + n - 1)) = true := n4.resolve_left he
  have d1 := r.d (i := lo + n) (by omega)
  have d2 := r.d (i := lo + n - 1) (by omega)
  have hlq := C.asy _ _ d1 d2 hsm
  by_cases hn1 : n > 1
  case' pos =>
    rw [if_pos hn1]
    refine wpS_bind (wp_ltAt C hk r (by omega) (by omega) ?_)
    have d0 := r.d (i := lo) (by omega)
    by_cases hw : less (Kt (arrOf st) lo) (Kt (arrOf st) (lo + n - 1)) = true
    · rw [hw]
      exact wpS_pure (q n (arrOf st) n1 n2 r n3)
    replace hw := Bool.eq_false_iff.mpr hw
    rw [hw]
    -- all are alike
    have hz : lo + n ≤ (arrOf st).size := by rw [r.size]; omega
    have eq : ∀ i j, lo ≤ i → i < lo + n → lo ≤ j → j < lo + n → leq less (Kt (arrOf st) i) (Kt (arrOf st) j) := fun i j g1 g2 g3 g4 => by
      have a1 : leq less (Kt (arrOf st) i) (Kt (arrOf st) (lo + n - 1)) := by
        rcases Nat.lt_or_ge i (lo + n - 1) with z | z
        · exact n3 i (lo + n - 1) g1 z (by omega)
        · have : i = lo + n - 1 := by omega
          subst this; exact C.irr _ d2
      have a2 : leq less (Kt (arrOf st) lo) (Kt (arrOf st) j) := by
        rcases Nat.lt_or_ge lo j with z | z
        · exact n3 lo j (Nat.le_refl _) z g4
        · have : j = lo := by omega
          subst this; exact C.irr _ d0
      exact leq_trans C (r.d (by omega)) d0 (r.d (by omega)) (leq_trans C (r.d (by omega)) d2 d0 a1 hw) a2
    have r1 := r.mirror (i := lo) (j := lo + n) (by omega) (Nat.le_refl _) hs
    have hd0 : Dsc less (mirror (arrOf st) lo (lo + n) ((lo + n - lo) / 2)) lo (lo + n) := fun i j g1 g2 g3 => by
      rw [kt_mirror hz, kt_mirror hz, if_pos (by omega), if_pos (by omega)]
      exact eq _ _ (by omega) (by omega) (by omega) (by omega)
    have hd1 := Dsc.snoc C (n := lo + n) r1 hd0 (by omega) (by omega) (by
      rw [kt_mirror hz, kt_mirror hz, if_neg (by omega), if_pos (by omega)]
      exact leq_trans C d1 d2 (r.d (by omega)) hlq (eq _ _ (by omega) (by omega) (by omega) (by omega)))
    dsimp only
    rw [if_neg Bool.false_ne_true]
    refine wpS_bind (wp_rev ?_)
    generalize mirror (arrOf st) lo (lo + n) ((lo + n - lo) / 2) = arr1 at r1 hd1 ⊢
  case' neg =>
    rw [if_neg hn1]
    obtain rfl : n = 1 := by omega
    have r1 := r
    have hd1 : Dsc less (arrOf st) lo (lo + 1 + 1) := fun i j g1 g2 g3 => by
      have e1 : i = lo := by omega
      have e2 : j = lo + 1 := by omega
      subst e1; subst e2
      exact hlq
    show wpS _ _ _ _ _ _ (setArr st (arrOf st))
    generalize arrOf st = arr1 at r1 hd1 ⊢
  all_goals
    refine wpS_bind (wp_rule (wpS_bind ?_))
    refine wpS_mono (wpS_forRange (fun k (c : Option (Option Nat) × Nat × Nat) st' => c.1 = none ∧ c.2.1 = k ∧ c.2.2 + 1 ≤ k ∧ ∃ arr, st' = setArr st arr ∧ AR D a0 lo (lo + nrem) arr ∧ Dsc less arr lo (lo + k) ∧ Eqs less arr (lo + k) c.2.2)
      (Q := fun c st' => c.1 = none ∧ 1 ≤ c.2.1 ∧ c.2.1 ≤ nrem ∧ c.2.2 + 1 ≤ c.2.1 ∧ ∃ arr, st' = setArr st arr ∧ AR D a0 lo (lo + nrem) arr ∧ Dsc less arr lo (lo + c.2.1) ∧ Eqs less arr (lo + c.2.1) c.2.2) ?_ ?_ ⟨rfl, rfl, by show 0 + 1 ≤ _; omega, arr1, rfl, r1, hd1, one_eqs C r1 (by omega) (by omega)⟩) ?_
    · rintro k ⟨c1, c2, c3⟩ st' hk1 hk2 ⟨e1, e2, e3, arr, rfl, r', hd', he'⟩
      obtain rfl : c1 = none := e1
      obtain rfl : c2 = k := e2
      replace e3 : c3 + 1 ≤ c2 := e3
      replace he' : Eqs less arr (lo + c2) c3 := he'
      dsimp only
      refine wpS_bind (wp_ltAt C (st := setArr st arr) hk r' (by omega) (by omega) ?_)
      have d1 := r'.d (i := lo + c2) (by omega)
      have d2 := r'.d (i := lo + c2 - 1) (by omega)
      cases hw : less (Kt arr (lo + c2)) (Kt arr (lo + c2 - 1)) with
      | true =>
        dsimp only
        rw [if_pos rfl]
        have hlq := C.asy _ _ d1 d2 hw
        by_cases h0 : c3 > 0
        · rw [if_pos h0]
          have r2 := r'.mirror (i := lo + c2 - (c3 + 1)) (j := lo + c2) (by omega) (by omega) hs
          have hd2 := dsc_rev r' hd' he' (by omega) (by omega)
          refine wpS_bind (wp_rev (wpS_pure ⟨rfl, rfl, by show 0 + 1 ≤ c2 + 1; omega, _, rfl, r2, Dsc.snoc C (n := lo + c2) r2 hd2 (by omega) (by omega) ?_, one_eqs C r2 (by omega) (by omega)⟩))
          rw [kt_rev_last r' (by omega), kt_mirror (by rw [r'.size]; omega), if_pos (by omega)]
          -- all of the last ones are alike
          exact leq_trans C d1 d2 (r'.d (by omega)) hlq (he' _ _ (by omega) (by omega) (by omega) (by omega))
        · rw [if_neg h0]
          exact wpS_pure ⟨rfl, rfl, by show 0 + 1 ≤ c2 + 1; omega, arr, rfl, r', Dsc.snoc C (n := lo + c2) r' hd' (by omega) (by omega) hlq, one_eqs C r' (by omega) (by omega)⟩
      | false =>
        dsimp only
        rw [if_neg Bool.false_ne_true]
        refine wpS_bind (wp_ltAt C (st := setArr st arr) hk r' (by omega) (by omega) ?_)
        cases hv : less (Kt arr (lo + c2 - 1)) (Kt arr (lo + c2)) with
        | true => exact wpS_pure ⟨rfl, by show 1 ≤ c2; omega, Nat.le_of_lt hk2, e3, arr, rfl, r', hd', he'⟩
        | false =>
          refine wpS_pure ⟨rfl, rfl, by show c3 + 1 + 1 ≤ c2 + 1; omega, arr, rfl, r', Dsc.snoc C (n := lo + c2) r' hd' (by omega) (by omega) hv, fun i j g1 g2 g3 g4 => ?_⟩
          replace g1 : lo + (c2 + 1) - (c3 + 1 + 1) ≤ i := g1
          replace g3 : lo + (c2 + 1) - (c3 + 1 + 1) ≤ j := g3
          have toL : ∀ i, lo + (c2 + 1) - (c3 + 1 + 1) ≤ i → i < lo + c2 → leq less (Kt arr i) (Kt arr (lo + c2 - 1)) ∧ leq less (Kt arr (lo + c2 - 1)) (Kt arr i) := fun i z1 z2 => ⟨he' _ _ (by omega) z2 (by omega) (by omega), he' _ _ (by omega) (by omega) (by omega) z2⟩
          rcases Nat.lt_or_ge i (lo + c2) with z | z
          · rcases Nat.lt_or_ge j (lo + c2) with y | y
            · exact he' _ _ (by omega) z (by omega) y
            · obtain rfl : j = lo + c2 := by omega
              exact leq_trans C (r'.d (by omega)) d2 d1 (toL i g1 z).1 hw
          · obtain rfl : i = lo + c2 := by omega
            rcases Nat.lt_or_ge j (lo + c2) with y | y
            · exact leq_trans C d1 d2 (r'.d (by omega)) hv (toL j g3 y).2
            · obtain rfl : j = lo + c2 := by omega
              exact C.irr _ d1
    · rintro ⟨c1, c2, c3⟩ st' ⟨e1, e2, e3, arr, e, r', hd', he'⟩
      replace e2 : c2 = _ := e2
      obtain rfl : c2 = nrem := by omega
      rw [Nat.max_eq_right (by omega)] at hd' he' e3
      exact ⟨e1, by show 1 ≤ c2; omega, Nat.le_refl _, e3, arr, e, r', hd', he'⟩
    rintro ⟨c1, c2, c3⟩ st' ⟨e1, g1, g2, g3, arr, rfl, r', hd', he'⟩
    obtain rfl : c1 = none := e1
    replace g1 : 1 ≤ c2 := g1
    replace g2 : c2 ≤ nrem := g2
    replace g3 : c3 + 1 ≤ c2 := g3
    dsimp only at hd' he' ⊢
    by_cases h3 : c3 > 0
    case' pos =>
      rw [if_pos h3]
      have r2 := r'.mirror (i := lo + c2 - (c3 + 1)) (j := lo + c2) (by omega) (by omega) hs
      have hd2 := dsc_rev r' hd' he' (by omega) (by omega)
      refine wpS_bind (wp_rev ?_)
      show wpS _ _ _ _ _ _ (setArr st (mirror arr (lo + c2 - (c3 + 1)) (lo + c2) ((lo + c2 - (lo + c2 - (c3 + 1))) / 2)))
      generalize mirror arr (lo + c2 - (c3 + 1)) (lo + c2) ((lo + c2 - (lo + c2 - (c3 + 1))) / 2) = arr2 at r2 hd2 ⊢
    case' neg =>
      rw [if_neg h3]
      have r2 := r'
      have hd2 := hd'
      generalize arr = arr2 at r2 hd2 ⊢
    all_goals
      have hz : lo + c2 ≤ arr2.size := by rw [r2.size]; omega
      have r3 := r2.mirror (i := lo) (j := lo + c2) (by omega) (Nat.le_refl _) hs
      have as3 : Asc less (mirror arr2 lo (lo + c2) ((lo + c2 - lo) / 2)) lo (lo + c2) := fun i j g1 g2 g3 => by
        rw [kt_mirror hz, kt_mirror hz, if_pos (by omega), if_pos (by omega)]
        exact hd2 _ _ (by omega) (by omega) (by omega)
      refine wpS_bind (wp_rev ?_)
      show wpS _ _ _ _ _ _ (setArr st (mirror arr2 lo (lo + c2) ((lo + c2 - lo) / 2)))
      generalize mirror arr2 lo (lo + c2) ((lo + c2 - lo) / 2) = arr3 at r3 as3 ⊢
      refine wpS_bind (wp_asc C (st := setArr st arr3) hs g1 g2 r3 as3 (fun k c Q c1 c2 q1 q2 => ?_) fun m m1 m2 m3 _ => wpS_pure (q m arr3 (by omega) m2 r3 m3))
      dsimp only
      refine wpS_bind (wp_ltAt C (st := setArr st arr3) hk r3 (by omega) (by omega) ?_)
      cases hw : less (Kt arr3 (lo + c)) (Kt arr3 (lo + c - 1)) with
      | true => exact wpS_pure (q1 hw)
      | false => exact wpS_pure (q2 hw)
end TS

namespace TS
open PySem PyProof.Rows
end TS

namespace TS
open PySem PyProof.Rows
variable {M : Model} {A : Around} {E : Value → Shared → Prop} {s : Shared} {kd : SortKind} {D : Keyed → Prop} {less : Keyed → Keyed → Bool}
theorem seg_at {L P Z R : List Keyed} {sa i : Nat} (h : L = P ++ Z ++ R) (hp : P.length = sa) (hi : i < Z.length) : L[sa + i]? = Z[i]? := by
  rw [h, List.append_assoc, List.getElem?_append_right (by omega), List.getElem?_append_left (by omega), hp, Nat.add_sub_cancel_left]
theorem asc_of_seg {arr : Array Keyed} {P Z R : List Keyed} {sa n : Nat} (h : arr.toList = P ++ Z ++ R) (hp : P.length = sa) (hn : Z.length = n) (hs : Z.Pairwise (leq less)) : Asc less arr sa (sa + n) := fun i j h1 h2 h3 => by
  have ei : arr[i]? = Z[i - sa]? := by rw [← Array.getElem?_toList, ← seg_at h hp (i := i - sa) (by omega)]; congr 1; omega
  have ej : arr[j]? = Z[j - sa]? := by rw [← Array.getElem?_toList, ← seg_at h hp (i := j - sa) (by omega)]; congr 1; omega
  have gi : Z[i - sa]? = some (Kt arr i) := by unfold Kt; rw [ei, List.getElem?_eq_getElem (by omega)]; rfl
  have gj : Z[j - sa]? = some (Kt arr j) := by unfold Kt; rw [ej, List.getElem?_eq_getElem (by omega)]; rfl
  exact pw_get hs (by omega) gi gj
theorem seg_of_asc {arr : Array Keyed} {sa n : Nat} (ha : Asc less arr sa (sa + n)) (hs : sa + n ≤ arr.size) : ((arr.toList.drop sa).take n).Pairwise (leq less) := by
  rw [List.pairwise_iff_getElem]
  intro i j hi hj hij
  rw [List.length_take, List.length_drop, Array.length_toList] at hi hj
  have g : ∀ k, (hk : k < n) → (h2 : k < ((arr.toList.drop sa).take n).length) → ((arr.toList.drop sa).take n)[k] = Kt arr (sa + k) := fun k hk h2 => by
    rw [List.getElem_take, List.getElem_drop]
    unfold Kt
    rw [Array.getElem?_eq_getElem (by omega)]
    rfl
  rw [g i (by omega), g j (by omega)]
  exact ha _ _ (by omega) (by omega) (by omega)
theorem wp_mergeI (C : Cmp M A E s kd D less) {i sa na nb sb pw pw2 : Nat} {st : SortSt} {Q : Bool → SortSt → Prop} (hk : kindOf st = kd) (hf : failedOf st = none) (h1 : (pendingOf st)[i]? = some (sa, na, pw)) (h2 : (pendingOf st)[i + 1]? = some (sb, nb, pw2)) (hsb : sb = sa + na) (na0 : 0 < na) (nb0 : 0 < nb)
    (hs : sa + na + nb ≤ (arrOf st).size) (dom : ∀ x ∈ (arrOf st).toList, D x) (ha : Asc less (arrOf st) sa (sa + na)) (hb : Asc less (arrOf st) (sa + na) (sa + na + nb))
    (q : ∀ (arr' : Array Keyed) (g : Nat), AR D (arrOf st) sa (sa + na + nb) arr' → Asc less arr' sa (sa + na + nb) → Q true (SortSt.mk' (kindOf st) arr' (((pendingOf st).setIfInBounds i (sa, na + nb, pw)).eraseIdxIfInBounds (i + 1)) g none)) : wpS M A E s (mergeAt' i) Q st := by
  have hlen : (arrOf st).toList.length = (arrOf st).size := Array.length_toList
  have hL : (arrOf st).toList = (arrOf st).toList.take sa ++ ((arrOf st).toList.drop sa).take na ++ ((arrOf st).toList.drop (sa + na)).take nb ++ (arrOf st).toList.drop (sa + na + nb) := by
    have e1 := List.take_append_drop sa (arrOf st).toList
    have e2 := List.take_append_drop na ((arrOf st).toList.drop sa)
    have e3 := List.take_append_drop nb ((arrOf st).toList.drop (sa + na))
    rw [List.drop_drop] at e2 e3
    rw [List.append_assoc, List.append_assoc, e3, e2, e1]
  have l1 : ((arrOf st).toList.take sa).length = sa := by rw [List.length_take]; omega
  have l2 : (((arrOf st).toList.drop sa).take na).length = na := by rw [List.length_take, List.length_drop]; omega
  have l3 : (((arrOf st).toList.drop (sa + na)).take nb).length = nb := by rw [List.length_take, List.length_drop]; omega
  refine wp_mergeAt C hk hf h1 h2 hL l1 l2 l3 hsb na0 nb0 (seg_of_asc ha (by omega)) (seg_of_asc hb hs) (fun x hx => dom x (List.mem_of_mem_drop (List.mem_of_mem_take hx))) (fun x hx => dom x (List.mem_of_mem_drop (List.mem_of_mem_take hx))) fun Z arr' g hp hz he => ?_
  have lz : Z.length = na + nb := by rw [hp.length_eq, List.length_append, l2, l3]
  refine q arr' g ⟨Array.perm_iff_toList_perm.mpr ?_, fun k hk => ?_, dom⟩ ?_
  · rw [he]
    conv => rhs; rw [hL]
    refine List.Perm.append_right _ ?_
    rw [List.append_assoc]
    exact List.Perm.append_left _ hp
  · rw [← Array.getElem?_toList, ← Array.getElem?_toList, he]
    rcases hk with hk | hk
    · rw [List.append_assoc, List.getElem?_append_left (by omega), List.getElem?_take_of_lt hk]
    · rw [List.getElem?_append_right (by rw [List.length_append]; omega), List.getElem?_drop]
      congr 1
      rw [List.length_append]; omega
  · have := asc_of_seg he l1 lz hz
    rw [← Nat.add_assoc] at this
    exact this
/-- the runs that wait, one behind the other -/
def Runs (less : Keyed → Keyed → Bool) (arr : Array Keyed) : List (Nat × Nat × Nat) → Nat → Nat → Prop
  | [], b, e => b = e
  | p :: r, b, e => p.1 = b ∧ 0 < p.2.1 ∧ Asc less arr b (b + p.2.1) ∧ Runs less arr r (b + p.2.1) e
theorem Runs.le {arr : Array Keyed} : ∀ {l : List (Nat × Nat × Nat)} {b e : Nat}, Runs less arr l b e → b + l.length ≤ e
  | [], b, e, h => by have h : b = e := h; simp [h]
  | p :: r, b, e, h => by
    have := Runs.le h.2.2.2
    have := h.2.1
    rw [List.length_cons]; omega
theorem Runs.app {arr : Array Keyed} : ∀ {l r : List (Nat × Nat × Nat)} {b e : Nat}, Runs less arr (l ++ r) b e ↔ ∃ m, Runs less arr l b m ∧ Runs less arr r m e
  | [], r, b, e => by
    constructor
    · exact fun h => ⟨b, rfl, h⟩
    · rintro ⟨m, h1, h2⟩
      have h1 : b = m := h1
      subst h1; exact h2
  | p :: l, r, b, e => by
    constructor
    · rintro ⟨h1, h2, h3, h4⟩
      obtain ⟨m, a, c⟩ := Runs.app.mp h4
      exact ⟨m, ⟨h1, h2, h3, a⟩, c⟩
    · rintro ⟨m, ⟨h1, h2, h3, a⟩, c⟩
      exact ⟨h1, h2, h3, Runs.app.mpr ⟨m, a, c⟩⟩
theorem Asc.same {arr arr' : Array Keyed} {b e : Nat} (h : Asc less arr b e) (hs : ∀ k, b ≤ k → k < e → arr'[k]? = arr[k]?) : Asc less arr' b e := fun i j h1 h2 h3 => by
  rw [kt_congr (hs i h1 (by omega)), kt_congr (hs j (by omega) h3)]
  exact h i j h1 h2 h3
theorem Runs.same {arr arr' : Array Keyed} : ∀ {l : List (Nat × Nat × Nat)} {b e : Nat}, Runs less arr l b e → (∀ k, b ≤ k → k < e → arr'[k]? = arr[k]?) → Runs less arr' l b e
  | [], b, e, h, _ => h
  | p :: r, b, e, h, hs => by
    have hl := Runs.le h.2.2.2
    exact ⟨h.1, h.2.1, h.2.2.1.same fun k h1 h2 => hs k h1 (by omega), h.2.2.2.same fun k h1 h2 => hs k (by omega) h2⟩
theorem Runs.pows {arr : Array Keyed} : ∀ {l r : List (Nat × Nat × Nat)} {b e : Nat}, Runs less arr l b e → l.map (fun p => (p.1, p.2.1)) = r.map (fun p => (p.1, p.2.1)) → Runs less arr r b e
  | [], [], b, e, h, _ => h
  | [], _ :: _, _, _, _, e => by simp at e
  | _ :: _, [], _, _, _, e => by simp at e
  | p :: l, p' :: r, b, e, h, eq => by
    simp only [List.map_cons, List.cons.injEq, Prod.mk.injEq] at eq
    obtain ⟨⟨e1, e2⟩, e3⟩ := eq
    refine ⟨e1 ▸ h.1, e2 ▸ h.2.1, e2 ▸ h.2.2.1, ?_⟩
    have := h.2.2.2.pows e3
    rw [e2] at this
    exact this
structure SI (kd : SortKind) (D : Keyed → Prop) (less : Keyed → Keyed → Bool) (a0 : Array Keyed) (e : Nat) (st : SortSt) : Prop where
  kind : kindOf st = kd
  fail : failedOf st = none
  perm : (arrOf st).Perm a0
  runs : Runs less (arrOf st) (pendingOf st).toList 0 e
theorem pend_list {p : Array (Nat × Nat × Nat)} {i : Nat} {x y z : Nat × Nat × Nat} (h1 : p[i]? = some x) (h2 : p[i + 1]? = some y) : ∃ pre post, p.toList = pre ++ x :: y :: post ∧ pre.length = i ∧ ((p.setIfInBounds i z).eraseIdxIfInBounds (i + 1)).toList = pre ++ z :: post := by
  have l2 : i + 1 < p.size := (Array.getElem?_eq_some_iff.mp h2).1
  rw [← Array.getElem?_toList] at h1 h2
  refine ⟨p.toList.take i, p.toList.drop (i + 2), ?_, by rw [List.length_take, Array.length_toList]; omega, ?_⟩
  · have e1 := List.take_append_drop i p.toList
    obtain ⟨g1, f1⟩ := List.getElem?_eq_some_iff.mp h1
    obtain ⟨g2, f2⟩ := List.getElem?_eq_some_iff.mp h2
    rw [List.drop_eq_getElem_cons g1, f1, List.drop_eq_getElem_cons g2, f2] at e1
    exact e1.symm
  · have e : ((p.setIfInBounds i z).eraseIdxIfInBounds (i + 1)).toList = (p.toList.set i z).eraseIdx (i + 1) := by
      rw [Array.eraseIdxIfInBounds, dif_pos (by rw [Array.size_setIfInBounds]; exact l2), Array.toList_eraseIdx, Array.toList_setIfInBounds]
    rw [e]
    refine List.ext_getElem? fun k => ?_
    rw [List.getElem?_eraseIdx]
    have lt : (p.toList.take i).length = i := by rw [List.length_take, Array.length_toList]; omega
    rcases Nat.lt_or_ge k i with hk | hk
    · rw [if_pos (by omega), List.getElem?_set_ne (by omega), List.getElem?_append_left (by omega), List.getElem?_take_of_lt hk]
    · rw [List.getElem?_append_right (by omega), lt]
      rcases Nat.lt_or_ge i k with hk2 | hk2
      · rw [if_neg (by omega), List.getElem?_set_ne (by omega)]
        obtain ⟨d, rfl⟩ : ∃ d, k = i + 1 + d := ⟨k - (i + 1), by omega⟩
        rw [show i + 1 + d - i = d + 1 by omega, List.getElem?_cons_succ, List.getElem?_drop]
        congr 1
        omega
      · have : k = i := by omega
        subst this
        rw [if_pos (by omega), Nat.sub_self, List.getElem?_cons_zero, List.getElem?_set_self (by rw [Array.length_toList]; omega)]
theorem wp_merge (C : Cmp M A E s kd D less) {i e : Nat} {st : SortSt} {a0 : Array Keyed} {Q : Bool → SortSt → Prop} (dom : ∀ x ∈ a0.toList, D x) (I : SI kd D less a0 e st) (he : e ≤ a0.size) (hi : i + 1 < (pendingOf st).size)
    (q : ∀ st', SI kd D less a0 e st' → (pendingOf st').size + 1 = (pendingOf st).size → (∀ k, e ≤ k → (arrOf st')[k]? = (arrOf st)[k]?) → Q true st') : wpS M A E s (mergeAt' i) Q st := by
  obtain ⟨⟨sa, na, pw⟩, hx⟩ : ∃ x, (pendingOf st)[i]? = some x := ⟨_, Array.getElem?_eq_getElem (by omega)⟩
  obtain ⟨⟨sb, nb, pw2⟩, hy⟩ : ∃ x, (pendingOf st)[i + 1]? = some x := ⟨_, Array.getElem?_eq_getElem hi⟩
  obtain ⟨pre, post, h1, h2, h3⟩ := pend_list (z := (sa, na + nb, pw)) hx hy
  have R := I.runs
  rw [h1, Runs.app] at R
  obtain ⟨m, R1, R2⟩ := R
  obtain ⟨e1, p1, a1, e2, p2, a2, R3⟩ := R2
  have e1 : sa = m := e1
  have e2 : sb = m + na := e2
  have p1 : 0 < na := p1
  have p2 : 0 < nb := p2
  have a1 : Asc less (arrOf st) m (m + na) := a1
  have a2 : Asc less (arrOf st) (m + na) (m + na + nb) := a2
  have R3 : Runs less (arrOf st) post (m + na + nb) e := R3
  subst e1
  have l3 := R3.le
  have sz := I.perm.size_eq
  refine wp_mergeI C I.kind I.fail hx hy e2 p1 p2 (by omega) (fun x hx => dom x ((Array.perm_iff_toList_perm.mp I.perm).mem_iff.mp hx)) a1 a2 fun arr' g r ha => ?_
  refine q _ ⟨I.kind, rfl, r.perm.trans I.perm, ?_⟩ ?_ fun k hk => r.out k (.inr (by omega))
  · show Runs less arr' (((pendingOf st).setIfInBounds i (sa, na + nb, pw)).eraseIdxIfInBounds (i + 1)).toList 0 e
    rw [h3, Runs.app]
    have l1 := R1.le
    refine ⟨sa, R1.same fun k _ hk => r.out k (.inl hk), rfl, by show 0 < na + nb; omega, ?_, ?_⟩
    · show Asc less arr' sa (sa + (na + nb))
      rw [← Nat.add_assoc]; exact ha
    · show Runs less arr' post (sa + (na + nb)) e
      rw [← Nat.add_assoc]
      exact R3.same fun k hk _ => r.out k (.inr hk)
  · show (((pendingOf st).setIfInBounds i (sa, na + nb, pw)).eraseIdxIfInBounds (i + 1)).size + 1 = _
    rw [← Array.length_toList, h3, ← Array.length_toList (xs := pendingOf st), h1, List.length_append, List.length_append, List.length_cons, List.length_cons, List.length_cons]
    omega
end TS

namespace TS
open PySem PyProof.Rows
variable {M : Model} {A : Around} {E : Value → Shared → Prop} {s : Shared} {kd : SortKind} {D : Keyed → Prop} {less : Keyed → Keyed → Bool} {a0 : Array Keyed}
theorem modify_list {p : Array (Nat × Nat × Nat)} {i pw : Nat} : (p.modify i fun x => match x with | (st, len, _) => (st, len, pw)).toList.map (fun p => (p.1, p.2.1)) = p.toList.map (fun p => (p.1, p.2.1)) := by
  refine List.ext_getElem? fun k => ?_
  rw [List.getElem?_map, List.getElem?_map, Array.getElem?_toList, Array.getElem?_toList, Array.getElem?_modify]
  split
  · cases p[k]? with
    | none => rfl
    | some x => rfl
  · rfl
theorem SI.push {lo n : Nat} {st : SortSt} (I : SI kd D less a0 lo st) (h0 : 0 < n) (ha : Asc less (arrOf st) lo (lo + n)) : SI kd D less a0 (lo + n) (setPending st ((pendingOf st).push (lo, n, 0))) := by
  refine ⟨I.kind, I.fail, I.perm, ?_⟩
  show Runs less (arrOf st) ((pendingOf st).push (lo, n, 0)).toList 0 (lo + n)
  rw [Array.toList_push, Runs.app]
  exact ⟨lo, I.runs, rfl, h0, ha, rfl⟩
theorem wp_sortRuns (C : Cmp M A E s kd D less) {st : SortSt} {Q : Unit → SortSt → Prop} (hk : kindOf st = kd) (hf : failedOf st = none) (hp : pendingOf st = #[]) (dom : ∀ x ∈ (arrOf st).toList, D x) (h2 : 2 ≤ (arrOf st).size)
    (q : ∀ st', (arrOf st').Perm (arrOf st) → failedOf st' = none → (arrOf st').toList.Pairwise (leq less) → Q () st') : wpS M A E s sortRuns' Q st := by
  rw [sortRuns'_eq]
  refine wpS_bind (wpS_get ?_)
  generalize ha0 : arrOf st = a0 at dom h2 q
  have I0 : SI kd D less a0 0 st := ⟨hk, hf, by rw [ha0], by rw [hp]; rfl⟩
  refine wpS_bind (wpS_mono (wpS_forRange (fun j (c : Option Unit × Nat) st' => c.1 = none ∧ SI kd D less a0 c.2 st' ∧ j ≤ c.2 ∧ c.2 ≤ a0.size) (Q := fun c st' => c.1 = none ∧ SI kd D less a0 a0.size st') ?_ ?_ ⟨rfl, I0, Nat.le_refl _, Nat.zero_le _⟩) ?_)
  · rintro j ⟨c1, lo⟩ st' _ hj ⟨e1, I', g1, g2⟩
    obtain rfl : c1 = none := e1
    have g1 : j ≤ lo := g1
    have g2 : lo ≤ a0.size := g2
    dsimp only
    by_cases h : lo ≥ a0.size
    · rw [if_pos h]
      have : lo = a0.size := by omega
      exact wpS_pure ⟨rfl, this ▸ I'⟩
    rw [if_neg h]
    have q2 : ∀ n st', 0 < n → lo + n ≤ a0.size → SI kd D less a0 (lo + n) st' → (none : Option Unit) = none ∧ SI kd D less a0 (lo + n) st' ∧ j + 1 ≤ lo + n ∧ lo + n ≤ a0.size := fun n st' h0 hn I'' => ⟨rfl, I'', by omega, hn⟩
    have r0 : AR D (arrOf st') lo (lo + (a0.size - lo)) (arrOf st') := ⟨Array.Perm.refl _, fun _ _ => rfl, fun x hx => dom x ((Array.perm_iff_toList_perm.mp I'.perm).mem_iff.mp hx)⟩
    have sz := I'.perm.size_eq
    refine wpS_bind (wp_countRun C I'.kind (by rw [sz]; omega) (by omega) r0 fun n arr n1 n2 r ha => ?_)
    dsimp only
    by_cases hm : n < minRun' a0.size a0.size 0
    case' pos =>
      rw [if_pos hm]
      generalize minRun' a0.size a0.size 0 = mr at hm ⊢
      have rr : AR D arr lo (lo + min (a0.size - lo) mr) arr := ⟨Array.Perm.refl _, fun _ _ => rfl, fun x hx => r0.dom x ((Array.perm_iff_toList_perm.mp r.perm).mem_iff.mp hx)⟩
      refine wpS_bind (wp_rule (wpS_bind (wp_bin C (st := setArr st' arr) (a0 := arr) (n := min (a0.size - lo) mr) (ok := n) I'.kind (by rw [r.size, sz]; omega) (by omega) rr ha fun arr2 r2 ha2 => ?_)))
      rw [if_neg (show ¬ (!true) = true by decide)]
      have I2 : SI kd D less a0 lo (setArr st' arr2) := ⟨I'.kind, I'.fail, r2.perm.trans (r.perm.trans I'.perm), I'.runs.same fun k _ hk => (r2.out k (.inl hk)).trans (r.out k (.inl hk))⟩
      have hz : 0 < min (a0.size - lo) mr := by omega
      have hz2 : lo + min (a0.size - lo) mr ≤ a0.size := by omega
      generalize min (a0.size - lo) mr = nn at ha2 hz hz2 ⊢
    case' neg =>
      rw [if_neg hm]
      have I2 : SI kd D less a0 lo (setArr st' arr) := ⟨I'.kind, I'.fail, r.perm.trans I'.perm, I'.runs.same fun k _ hk => r.out k (.inl hk)⟩
      have hz : 0 < n := n1
      have hz2 : lo + n ≤ a0.size := by omega
      have ha2 := ha
      generalize n = nn at ha2 hz hz2 ⊢
      generalize arr = arr2 at ha2 I2 ⊢
    all_goals
      replace ha2 : Asc less (arrOf (setArr st' arr2)) lo (lo + nn) := ha2
      generalize setArr st' arr2 = s2 at I2 ha2 ⊢
      refine wpS_bind (wpS_get ?_)
      generalize hb : (pendingOf s2).back? = bk
      cases bk with
      | none => exact wpS_bind (wpS_modify (wpS_pure (q2 _ _ hz hz2 (I2.push hz ha2))))
      | some p =>
        obtain ⟨s1, n1, _⟩ := p
        dsimp only
        refine wpS_bind (wpS_mono (wpS_forRange (fun _ (c : Option Unit × Unit) st' => c.1 = none ∧ SI kd D less a0 lo st' ∧ Asc less (arrOf st') lo (lo + nn)) (Q := fun c st' => c.1 = none ∧ SI kd D less a0 lo st' ∧ Asc less (arrOf st') lo (lo + nn)) ?_ ?_ ⟨rfl, I2, ha2⟩) ?_)
        · rintro j ⟨c1, c2⟩ s3 _ _ ⟨e1, I3, ha3⟩
          refine wpS_bind (wpS_get ?_)
          by_cases h : (pendingOf s3).size > 1
          · rw [if_pos h]
            obtain ⟨⟨x, y, z⟩, hx⟩ : ∃ x, (pendingOf s3)[(pendingOf s3).size - 2]? = some x := ⟨_, Array.getElem?_eq_getElem (by omega)⟩
            rw [hx]
            dsimp only
            split
            · exact wpS_pure ⟨rfl, I3, ha3⟩
            · refine wpS_bind (wp_merge C dom I3 (by omega) (by omega) fun s4 I4 hs4 hk4 => ?_)
              exact wpS_pure ⟨rfl, I4, ha3.same fun k h1 _ => hk4 k h1⟩
          · rw [if_neg h]
            exact wpS_pure ⟨rfl, I3, ha3⟩
        · exact fun c st' h => h
        · rintro ⟨c1, c2⟩ s3 ⟨e1, I3, ha3⟩
          obtain rfl : c1 = none := e1
          dsimp only
          refine wpS_bind (wpS_modify (wpS_bind (wpS_modify (wpS_pure (q2 _ _ hz hz2 ?_)))))
          exact SI.push ⟨I3.kind, I3.fail, I3.perm, I3.runs.pows modify_list.symm⟩ hz ha3
  · rintro ⟨c1, lo⟩ st' ⟨e1, I', g1, g2⟩
    have g1 : max 0 a0.size ≤ lo := g1
    have g2 : lo ≤ a0.size := g2
    have : lo = a0.size := by omega
    exact ⟨e1, this ▸ I'⟩
  · rintro ⟨c1, lo⟩ st' ⟨e1, I'⟩
    obtain rfl : c1 = none := e1
    dsimp only
    have hl := I'.runs.le
    rw [Nat.zero_add, Array.length_toList] at hl
    refine wpS_bind (wpS_mono (wpS_forRange (fun j (c : Option Unit × Unit) st' => c.1 = none ∧ SI kd D less a0 a0.size st' ∧ (pendingOf st').size + j ≤ a0.size + 1) (Q := fun c st' => c.1 = none ∧ SI kd D less a0 a0.size st' ∧ (pendingOf st').size ≤ 1) ?_ ?_ ⟨rfl, I', by omega⟩) ?_)
    · rintro j ⟨c1, c2⟩ st'' _ hj ⟨e1, I'', g⟩
      refine wpS_bind (wpS_get ?_)
      by_cases h : (pendingOf st'').size ≤ 1
      · rw [if_pos h]
        exact wpS_pure ⟨rfl, I'', h⟩
      · rw [if_neg h]
        refine wpS_bind (wp_merge C dom I'' (Nat.le_refl _) ?_ fun s3 I3 hs hk => ?_)
        · (repeat' split) <;> omega
        · exact wpS_pure ⟨rfl, I3, by omega⟩
    · rintro ⟨c1, c2⟩ st'' ⟨e1, I'', g⟩
      exact ⟨e1, I'', by omega⟩
    · rintro ⟨c1, c2⟩ st'' ⟨e1, I'', g⟩
      obtain rfl : c1 = none := e1
      dsimp only
      refine wpS_pure (q st'' I''.perm I''.fail ?_)
      have R := I''.runs
      have sz := I''.perm.size_eq
      -- one run is left
      cases hpl : (pendingOf st'').toList with
      | nil =>
        rw [hpl] at R
        have R : 0 = a0.size := R
        omega
      | cons p r =>
        have hr : r = [] := by
          have : (pendingOf st'').toList.length ≤ 1 := by rw [Array.length_toList]; exact g
          rw [hpl, List.length_cons] at this
          exact List.length_eq_zero_iff.mp (by omega)
        subst hr
        rw [hpl] at R
        obtain ⟨_, _, ha, R⟩ := R
        have R : 0 + p.2.1 = a0.size := R
        have := seg_of_asc (sa := 0) (n := a0.size) (arr := arrOf st'') (less := less) (by rw [← R, Nat.zero_add]; rw [Nat.zero_add] at ha; exact fun i j h1 h2 h3 => ha i j h1 h2 (by omega)) (by omega)
        rw [List.drop_zero, List.take_of_length_le (by rw [Array.length_toList]; omega)] at this
        exact this
end TS

namespace TS
open PySem PyProof.Rows
open HT (lexLt lexLt_cons lexLt_nil_nil lexLt_nil_cons lexLt_cons_nil)
theorem lex_irr : ∀ x : List Int, lexLt x x = false
  | [] => rfl
  | x :: xs => by rw [lexLt_cons, if_pos rfl, lex_irr xs]
theorem lex_asy : ∀ x y : List Int, lexLt x y = true → lexLt y x = false
  | [], [], h => by cases h
  | [], y :: ys, _ => rfl
  | x :: xs, [], h => by cases h
  | x :: xs, y :: ys, h => by
    rw [lexLt_cons] at h ⊢
    by_cases e : x = y
    · subst e
      rw [if_pos rfl] at h ⊢
      exact lex_asy xs ys h
    · rw [if_neg e] at h
      rw [if_neg (fun z => e z.symm)]
      have := of_decide_eq_true h
      exact decide_eq_false (by omega)
theorem lex_tr : ∀ x y z : List Int, lexLt y x = false → lexLt z y = false → lexLt z x = false
  | [], y, [], _, _ => rfl
  | [], [], z :: zs, h1, h2 => rfl
  | [], y :: ys, z :: zs, h1, h2 => rfl
  | x :: xs, [], z, h1, h2 => by cases h1
  | x :: xs, y :: ys, [], h1, h2 => by cases h2
  | x :: xs, y :: ys, z :: zs, h1, h2 => by
    rw [lexLt_cons] at h1 h2 ⊢
    by_cases e : y = x
    · subst e
      rw [if_pos rfl] at h1
      by_cases e2 : z = y
      · subst e2
        rw [if_pos rfl] at h2 ⊢
        exact lex_tr xs ys zs h1 h2
      · rw [if_neg e2] at h2 ⊢
        exact h2
    · rw [if_neg e] at h1
      have h1 := of_decide_eq_false h1
      by_cases e2 : z = y
      · subst e2
        rw [if_neg e]
        exact decide_eq_false h1
      · rw [if_neg e2] at h2
        have h2 := of_decide_eq_false h2
        rw [if_neg (by omega)]
        exact decide_eq_false (by omega)
theorem lex_anti : ∀ x y : List Int, lexLt x y = false → lexLt y x = false → x = y
  | [], [], _, _ => rfl
  | [], y :: ys, h, _ => by cases h
  | x :: xs, [], _, h => by cases h
  | x :: xs, y :: ys, h1, h2 => by
    rw [lexLt_cons] at h1 h2
    by_cases e : x = y
    · subst e
      rw [if_pos rfl] at h1 h2
      rw [lex_anti xs ys h1 h2]
    · rw [if_neg e] at h1
      rw [if_neg (fun z => e z.symm)] at h2
      have := of_decide_eq_false h1
      have := of_decide_eq_false h2
      omega
/-- the ints of a tuple -/
def tupK (h : Heap) (v : Value) (ns : List Int) : Prop := ∃ a items, v = .ref a ∧ IsTup h a items ∧ IntsAre items.toList ns
variable {prog : Program} {w : World} {A : Around} {E : Value → Shared → Prop} {s : Shared}
theorem oneLt_int_any {o : Bool} {a b : Int} {t u : Tok} {Q : Bool → Shared → Prop} (h : Q (decide (a < b)) s) : wpAny (model prog w) A (oneLt' o (.int a t) (.int b u)) Q E s := by
  cases o with
  | true => exact oneLt_int h
  | false =>
    rw [oneLt'_eq]
    show wpAny _ A (richCompare .Lt (.int a t) (.int b u) >>= fun r => truthOfDropped r) Q E s
    exact wpAny_bind (HT.rcLt_int A s a t b u prog w E _ (wpAny_truthy_bool h))
theorem tuple_call_lt {x y : Value} {ns ms : List Int} {Q : Value → Shared → Prop} (hx : tupK s.heap x ns) (hy : tupK s.heap y ms) (h : Q (.bool (lexLt ns ms)) s) : wpAny (model prog w) A (call (.builtin "tuple.__lt__") [x, y]) Q E s := by
  obtain ⟨a, items, rfl, ⟨⟨cls, dd, data, sl⟩, ho, hc, n, hd⟩, hi⟩ := hx
  obtain ⟨b, items2, rfl, ⟨⟨cls2, dd2, data2, sl2⟩, ho2, hc2, n2, hd2⟩, hj⟩ := hy
  simp only at hc hd hc2 hd2
  subst hc hd hc2 hd2
  exact call_meets PySem.F.slot_tuple_lt ⟨_, ho, rfl⟩ PySem.F.entry_tuple_lt (PySem.F.args_tuple_lt_2 _ _) (HT.tuple_lt_ints a b items items2 n n2 dd dd2 sl sl2 ns ms hi hj) ⟨ho, ho2, h⟩
theorem oneLt_tup {o : Bool} {x y : Value} {ns ms : List Int} {Q : Bool → Shared → Prop} (hu : A.units < cLine) (hx : tupK s.heap x ns) (hy : tupK s.heap y ms) (h : Q (lexLt ns ms) s) : wpAny (model prog w) A (oneLt' o x y) Q E s := by
  obtain ⟨a, items, rfl, ht, hi⟩ := id hx
  obtain ⟨b, items2, rfl, ht2, hj⟩ := id hy
  cases o with
  | false =>
    rw [oneLt'_eq]
    show wpAny _ A (richCompare .Lt (.ref a) (.ref b) >>= fun r => truthOfDropped r) Q E s
    exact wpAny_bind (HT.lt_tupInts (Q := fun r s' => wpAny _ A (truthOfDropped r) Q E s') ht ht2 hi hj hu (wpAny_truthy_bool h) : wpAny _ A (compareOp .Lt (.ref a) (.ref b)) _ E s)
  | true =>
    rw [oneLt'_eq]
    simp only [if_true]
    have ta : s.TypeIs (.ref a) "tuple" := by obtain ⟨z, hz, hc, -⟩ := ht; exact ⟨z, hz, hc⟩
    exact wpAny_bind (wpAny_cRoomFor hu (wpAny_bind (wpAny_callSpecialIfBound?_slot ta PySem.F.slot_tuple_lt (tuple_call_lt hx hy (wpAny_truthy_bool h)))))
local macro_rules | `(tactic| walk_at "open keyLt") => do
  let n := Lean.mkIdent (.str (.str (.str (.num (.str (.str (.str (.str (.str .anonymous "_private") "PySem") "Builtin") "List") "W1All") 0) "PySem") "Builtin") "keyLt")
  `(tactic| delta $n:ident)
theorem keyLt_gen (x y : Value) : keyLt' general' x y = oneLt' false x y := rfl
theorem wp_items {v : Value} {items : Array Value} {a : Addr} {Q : Array Value → Shared → Prop} (hv : v = .ref a) (ht : IsTup s.heap a items) (h : Q items s) : wpAny (model prog w) A (Builtin.List.listItems v) Q E s := by
  subst hv
  obtain ⟨_, at_a, -, _, its⟩ := ht
  exact listItems_at at_a its h
theorem keyLt_tups {f : Bool} {x y : Value} {ns ms : List Int} {Q : Bool → Shared → Prop} (hx : tupK s.heap x ns) (hy : tupK s.heap y ms) (h : Q (lexLt ns ms) s) : wpAny (model prog w) A (keyLt' (tuples' f) x y) Q E s := by
  obtain ⟨a, items, hxa, ht, hi⟩ := id hx
  obtain ⟨b, items2, hyb, ht2, hj⟩ := id hy
  unfold keyLt'
  walk_at "open keyLt"
  show wpAny _ A (Builtin.List.listItems x >>= _) Q E s
  refine wpAny_bind (wp_items hxa ht (wpAny_bind (wp_items hyb ht2 ?_)))
  have z1 : items.size = ns.length := by rw [← hi.length]; simp
  have z2 : items2.size = ms.length := by rw [← hj.length]; simp
  have loop : ∀ (vs ws : List Value) (ns' ms' : List Int) (k : Nat), IntsAre vs ns' → IntsAre ws ms' → ns'.length + ms.length = ms'.length + ns.length → Q (lexLt ns' ms') s →
      wpAny (model prog w) A (forIn ((vs.zip ws).zipIdx k) ((none, ()) : Option Bool × Unit) fun z r => do
        let e ← eqBool z.1.1 z.1.2
        if (!e) = true then do
          let r ← oneLt' (f && z.2 == 0) z.1.1 z.1.2
          pure (ForInStep.done (some r, ()))
        else pure (ForInStep.yield (none, ()))) (fun c s' => match c.1 with | some r => Q r s' | none => Q (decide (items.size < items2.size)) s') E s := by
    intro vs
    induction vs with
    | nil =>
      intro ws ns' ms' k h1 h2 hl hq
      cases h1
      rw [List.zip_nil_left]
      show wpAny _ A (pure (none, ())) _ E s
      refine wpAny_pure ?_
      show Q (decide (items.size < items2.size)) s
      cases h2 with
      | nil =>
        rw [lexLt_nil_nil] at hq
        rw [decide_eq_false (by simp only [List.length_nil] at hl; omega)]
        exact hq
      | cons c u h2 =>
        rw [lexLt_nil_cons] at hq
        rw [decide_eq_true (by simp only [List.length_nil, List.length_cons] at hl; omega)]
        exact hq
    | cons v vs ih =>
      intro ws ns' ms' k h1 h2 hl hq
      cases h1 with
      | cons a t h1 =>
        cases h2 with
        | nil =>
          rw [List.zip_nil_right]
          refine wpAny_pure ?_
          show Q (decide (items.size < items2.size)) s
          rw [lexLt_cons_nil] at hq
          rw [decide_eq_false (by simp only [List.length_nil, List.length_cons] at hl; omega)]
          exact hq
        | cons c u h2 =>
          rw [List.zip_cons_cons, List.zipIdx_cons, List.forIn_cons]
          rw [lexLt_cons] at hq
          refine wpAny_bind (wpAny_bind (wpAny_eqBool_int ?_))
          by_cases e : a = c
          · rw [if_pos e] at hq
            rw [show (a == c) = true by simpa using e]
            simp only [Bool.not_true, Bool.false_eq_true, if_false]
            refine wpAny_pure (ih _ _ _ (k + 1) h1 h2 (by simp only [List.length_cons] at hl; omega) hq)
          · rw [if_neg e] at hq
            rw [show (a == c) = false by simpa using e]
            simp only [Bool.not_false, if_true]
            refine wpAny_bind (oneLt_int_any (wpAny_pure (wpAny_pure ?_)))
            exact hq
  refine wpAny_bind (wpAny_mono (loop items.toList items2.toList ns ms 0 hi hj (by omega) h) (fun c s' hc => ?_) fun _ _ e => e)
  obtain ⟨c1, c2⟩ := c
  cases c1 with
  | none => exact wpAny_pure hc
  | some r => exact wpAny_pure hc
end TS

namespace TS
open PySem PyProof.Rows
open HT (lexLt lexLt_cons lexLt_nil_nil lexLt_nil_cons lexLt_cons_nil)
variable {prog : Program} {w : World} {A : Around} {E : Value → Shared → Prop} {s : Shared}
theorem wp_mapM {α : Type} {f : Value → Sem α} {g : Value → α} : ∀ {vs : List Value} {Q : List α → Shared → Prop}, (∀ v ∈ vs, ∀ Q' : α → Shared → Prop, Q' (g v) s → wpAny (model prog w) A (f v) Q' E s) → Q (vs.map g) s → wpAny (model prog w) A (vs.mapM f) Q E s
  | [], Q, _, q => by rw [List.mapM_nil]; exact wpAny_pure q
  | v :: vs, Q, h, q => by
    rw [List.mapM_cons]
    exact wpAny_bind (h v List.mem_cons_self _ (wpAny_bind (wp_mapM (fun z hz => h z (List.mem_cons_of_mem _ hz)) (wpAny_pure q))))
theorem wp_mapA {α : Type} {f : Value → Sem α} {g : Value → α} {vs : List Value} {Q : Array α → Shared → Prop} (h : ∀ v ∈ vs, ∀ Q' : α → Shared → Prop, Q' (g v) s → wpAny (model prog w) A (f v) Q' E s) (q : Q (vs.map g).toArray s) : wpAny (model prog w) A (vs.toArray.mapM f) Q E s := by
  rw [List.mapM_toArray, map_eq_pure_bind]
  exact wpAny_bind (wp_mapM h (wpAny_pure q))
def itemsOf (h : Heap) (v : Value) : Array Value := match v with
  | .ref a => (match h.get? a with | some o => (match o.data with | .seq its _ => its | _ => #[]) | none => #[])
  | _ => #[]
theorem items_tup {h : Heap} {a : Addr} {items : Array Value} (ht : IsTup h a items) : itemsOf h (.ref a) = items := by
  obtain ⟨o, ho, hc, n, hd⟩ := ht
  show (match h.get? a with | some o => (match o.data with | .seq its _ => its | _ => #[]) | none => #[]) = items
  rw [ho]
  show (match o.data with | .seq its _ => its | _ => #[]) = items
  rw [hd]
theorem wp_first {v : Value} {ns : List Int} {Q : Option Value → Shared → Prop} (hv : tupK s.heap v ns) (q : Q (itemsOf s.heap v)[0]? s) : wpAny (model prog w) A (firstOfTuple' v) Q E s := by
  obtain ⟨a, items, rfl, ht, hi⟩ := hv
  rw [items_tup ht] at q
  rw [PySem.W.kas_first_eq]
  obtain ⟨o, ho, hc, _⟩ := id ht
  refine wpAny_bind (wpAny_typeOf (T := "tuple") ⟨o, ho, hc⟩ ?_)
  rw [if_neg (by rw [bne_iff_ne]; exact fun h => h rfl)]
  exact wpAny_bind (wp_items rfl ht (wpAny_pure q))
theorem wp_oneType {vs : List Value} {g : Value → Value} {Q : Option Value → Shared → Prop} (h : ∀ v ∈ vs, ∀ Q' : Value → Shared → Prop, Q' (g v) s → wpAny (model prog w) A (typeOf v) Q' E s) (q : ∀ r, Q r s) : wpAny (model prog w) A (oneTypeOnly' vs.toArray) Q E s := by
  rw [oneTypeOnly'_eq]
  refine wpAny_bind (wp_mapA (g := g) h ?_)
  cases (vs.map g).toArray[0]? with
  | none => exact wpAny_pure (q _)
  | some t => exact wpAny_pure (q _)
theorem ints_mem : ∀ {vs : List Value} {ns : List Int} {i : Nat} {v : Value}, IntsAre vs ns → vs[i]? = some v → ∃ n t, v = .int n t
  | _, _, i, v, .nil, e => by simp at e
  | _, _, 0, v, .cons n t h, e => by simp at e; subst e; exact ⟨n, t, rfl⟩
  | _, _, i + 1, v, .cons n t h, e => ints_mem (i := i) h (by simpa using e)
theorem wp_keyKind {vs : List Value} {Q : SortKind → Shared → Prop} (hv : ∀ v ∈ vs, ∃ ns, tupK s.heap v ns) (q : ∀ kd, ((∃ f, kd = tuples' f) ∨ kd = general' ∨ kd = oneType') → Q kd s) : wpAny (model prog w) A (keyKind' vs.toArray) Q E s := by
  rw [keyKind'_eq]
  refine wpAny_bind (wp_mapA (g := fun v => (itemsOf s.heap v)[0]?) (fun v h Q' q' => by obtain ⟨ns, hn⟩ := hv v h; exact wp_first hn q') ?_)
  split
  · refine wpAny_bind (wpAny_rule ?_)
    rw [show ((vs.map fun v => (itemsOf s.heap v)[0]?).toArray.filterMap id) = ((vs.map fun v => (itemsOf s.heap v)[0]?).filterMap id).toArray by rw [List.filterMap_toArray]]
    refine wpAny_bind (wp_oneType (g := fun _ => .type "int") (fun v h Q' q' => ?_) fun r => wpAny_pure (q _ (.inl ⟨_, rfl⟩)))
    obtain ⟨o, ho, rfl⟩ := List.mem_filterMap.mp h
    obtain ⟨z, hz, e⟩ := List.mem_map.mp ho
    obtain ⟨ns, a, items, rfl, ht, hi⟩ := hv z hz
    rw [items_tup ht] at e
    have e : items.toList[0]? = some v := by rw [Array.getElem?_toList]; exact e
    obtain ⟨n, t, rfl⟩ := ints_mem hi e
    exact wpAny_pure q'
  · split
    · exact wpAny_pure (q _ (.inr (.inl rfl)))
    · refine wpAny_bind (wp_oneType (g := fun _ => .type "tuple") (fun v h Q' q' => ?_) fun r => wpAny_pure (q _ ?_))
      · obtain ⟨ns, a, items, rfl, ⟨o, ho, hc, _⟩, hi⟩ := hv v h
        exact wpAny_typeOf (T := "tuple") ⟨o, ho, hc⟩ q'
      · split
        · exact .inr (.inr rfl)
        · exact .inr (.inl rfl)
/-- the ints of what is sorted -/
def keyN (h : Heap) (v : Value) : List Int := (itemsOf h v).toList.map numOf
theorem keyN_tup {h : Heap} {v : Value} {ns : List Int} (hv : tupK h v ns) : keyN h v = ns := by
  obtain ⟨a, items, rfl, ht, hi⟩ := hv
  unfold keyN
  rw [items_tup ht]
  exact hi.nums
def DT (h : Heap) (p : Keyed) : Prop := p.1 = p.2 ∧ ∃ ns, tupK h p.1 ns
theorem cmp_tup (hu : A.units < cLine) {kd : SortKind} (hk : (∃ f, kd = tuples' f) ∨ kd = general' ∨ kd = oneType') : Cmp (model prog w) A E s kd (DT s.heap) (fun x y => lexLt (keyN s.heap x.1) (keyN s.heap y.1)) := by
  refine ⟨fun x y st Q dx dy hks q => ?_, fun x _ => lex_irr _, fun x y _ _ h => lex_asy _ _ h, fun x y z _ _ _ h1 h2 => lex_tr _ _ _ h1 h2⟩
  obtain ⟨_, ns, hx⟩ := dx
  obtain ⟨_, ms, hy⟩ := dy
  rw [keyN_tup hx, keyN_tup hy] at q
  rw [lt'_eq]
  refine wpS_bind (wpS_get (wpS_bind ?_))
  rw [hks]
  refine wpS_lift (wpAny_attempt ?_)
  have fin : wpAny (model prog w) A (keyLt' kd x.1 y.1) (fun b s' => b = lexLt ns ms ∧ s' = s) (fun _ _ => False) s := by
    rcases hk with ⟨f, rfl⟩ | rfl | rfl
    · exact keyLt_tups hx hy ⟨rfl, rfl⟩
    · rw [keyLt_gen]; exact oneLt_tup hu hx hy ⟨rfl, rfl⟩
    · rw [keyLt'_oneType]; exact oneLt_tup hu hx hy ⟨rfl, rfl⟩
  refine wpAny_mono fin (fun b s' hb => ?_) fun _ _ z => z.elim
  obtain ⟨rfl, rfl⟩ := hb
  exact ⟨rfl, wpS_pure q⟩
end TS

namespace TS
open PySem PyProof.Rows
open HT (lexLt)
variable {prog : Program} {w : World} {A : Around} {E : Value → Shared → Prop} {s : Shared}
/-- the heap while the items of the list at a are sorted: the list is bare, its items stand in a tuple, behind it an empty list -/
def bared (h : Heap) (a : Addr) (vs : List Value) : Heap := ((h.update a (Obj.mapSeq fun _ => #[])).push (seqObj "tuple" vs.toArray 0)).push (seqObj "list" #[] 0)
theorem bared_self {h : Heap} {a : Addr} {vs : List Value} {n : Nat} (ho : h.get? a = some (seqObj "list" vs.toArray n)) : ∃ e, (h.update a (Obj.mapSeq fun _ => #[])).get? a = some (seqObj "list" #[] e) ∧ (bared h a vs).get? a = some (seqObj "list" #[] e) :=
  have g := get?_update_seq ho fun _ => #[]
  ⟨_, g, Heap.get?_push_of_some _ (Heap.get?_push_of_some _ g)⟩
theorem bared_else {h : Heap} {a b : Addr} {vs : List Value} {o : Obj} (hb : b ≠ a) (e : h.get? b = some o) : (bared h a vs).get? b = some o :=
  Heap.get?_push_of_some _ (Heap.get?_push_of_some _ ((Heap.get?_update_ne _ _ _ _ hb).trans e))
theorem short_pairwise {α : Type} {le : α → α → Prop} : ∀ {l : List α}, l.length < 2 → l.Pairwise le
  | [], _ => .nil
  | [_], _ => List.pairwise_singleton _ _
  | _ :: _ :: l, z => absurd z (by simp)
theorem list_sort_gen {a : Addr} {vs : List Value} {n : Nat} {P : Fin → Shared → Prop} {KD : SortKind → Prop} {D : Keyed → Prop} {less : Keyed → Keyed → Bool} (ho : s.heap.get? a = some (seqObj "list" vs.toArray n)) (hlen : vs.length ≤ sizeLine)
    (kind : ∀ (s' : Shared) (Q : SortKind → Shared → Prop), (∀ b o, b ≠ a → s.heap.get? b = some o → s'.heap.get? b = some o) → 2 ≤ vs.length → (∀ kd, KD kd → Q kd s') → wpAny (model prog w) A (keyKind' vs.toArray) Q E s')
    (cmp : ∀ (s' : Shared) (kd : SortKind), (∀ b o, b ≠ a → s.heap.get? b = some o → s'.heap.get? b = some o) → KD kd → Cmp (model prog w) A E s' kd D less) (dom : ∀ v ∈ vs, D (v, v))
    (h : ∀ out : Array Keyed, out.Perm (pairsOf vs) → out.toList.Pairwise (leq less) → P (.done (.ret .none)) { s with heap := sortedHeap s.heap a vs (out.map (·.2)) }) :
    wpAny (model prog w) A (Builtin.«list.sort» ⟨[.ref a], []⟩) P E s := by
  obtain ⟨e, b1, b2⟩ := bared_self ho
  have few : (vs.toArray : Array Value).size ≤ sizeLine := by simpa using hlen
  rw [list_sort_plain]
  refine wpAny_bind (listItems_at ho rfl (wpAny_bind (listUpdate_at ho rfl (wpAny_bind (seqEpoch_at b1 rfl (wpAny_bind (wpAny_newTuple (wpAny_bind (wpAny_newList (wpAny_holding ?_))) few)))) few)))
  change wpAny _ A _ P E { s with heap := bared s.heap a vs }
  -- what is left, once the pairs are in order
  have put : ∀ out : Array Keyed, out.Perm (pairsOf vs) → (out.map (·.2)).size ≤ sizeLine + 1 := fun out hp => by
    have := hp.size_eq
    rw [Array.size_map, this, pairsOf_size]; omega
  have many : (pairsOf vs).size = vs.length := pairsOf_size _
  by_cases h2 : vs.toArray.size < 2
  case' pos =>
    simp only [if_pos h2]
    refine wpAny_bind (wpAny_pure ?_)
    rw [StateT.run_pure]
    refine wpAny_bind (wpAny_pure ?_)
    have hp : (vs.toArray.zip vs.toArray).Perm (pairsOf vs) := Array.Perm.refl _
    have hs : (vs.toArray.zip vs.toArray).toList.Pairwise (leq less) := short_pairwise (by rw [Array.length_toList]; simpa using h2)
  case' neg =>
    simp only [if_neg h2]
    have h2 : 2 ≤ vs.length := by simpa using h2
    refine wpAny_bind (kind _ _ (fun b o hb => bared_else hb) h2 fun kd hkd => ?_)
    have hd : ∀ x ∈ (pairsOf vs).toList, D x := fun x hx => by
      rw [pairsOf_toList] at hx
      obtain ⟨e, hm⟩ := mem_zip_self hx
      rw [show x = (x.1, x.1) from Prod.ext rfl e.symm]
      exact dom x.1 hm
    refine wpAny_bind (wpAny_mono (wp_sortRuns (cmp _ kd (fun b o hb => bared_else hb) hkd) (st := SortSt.mk' kd (vs.toArray.zip vs.toArray) #[] 7 none) (Q := fun _ z => (arrOf z).Perm (pairsOf vs) ∧ failedOf z = none ∧ (arrOf z).toList.Pairwise (leq less)) rfl rfl rfl hd (many ▸ h2) fun z z1 z2 z3 => ⟨z1, z2, z3⟩) (fun c s' hc => ?_) fun _ _ e => e)
    obtain ⟨⟨⟩, z⟩ := c
    obtain ⟨rfl, hp, hf, hs⟩ := hc
    replace hf : failedOf z = none := hf
  all_goals
    dsimp only
    refine wpAny_bind (seqEpoch_at b2 rfl (wpAny_bind (listUpdate_at b2 rfl ?_ (Nat.zero_le _) (put _ hp))))
    try rw [hf]
    rw [if_neg (by simp)]
    exact wpAny_pure (h _ hp hs)
/-- sorted(..) of a list or a tuple -/
theorem sorted_of {it : Addr} {T : String} {o : Obj} {vs : List Value} {n : Nat} {R : Array Value → Prop} {Q : Value → Shared → Prop} (hT : T = "list" ∨ T = "tuple") (ho : s.heap.get? it = some o) (hc : o.cls = .type T) (hd : o.data = .seq vs.toArray n) (hsz : vs.length ≤ sizeLine)
    (sort : ∀ (A' : Around) (E : Value → Shared → Prop) (s' : Shared) (a : Addr) (n : Nat) (P : Fin → Shared → Prop), A'.units ≤ A.units + 4 → (∀ b o', s.heap.get? b = some o' → s'.heap.get? b = some o' ∧ b ≠ a) → s'.heap.get? a = some (seqObj "list" vs.toArray n) →
      (∀ out : Array Value, R out → P (.done (.ret .none)) { s' with heap := sortedHeap s'.heap a vs out }) → wpAny (model prog w) A' (Builtin.«list.sort» ⟨[.ref a], []⟩) P E s')
    (h : ∀ (out : Array Value) (h' : Heap) (l : Addr) (e : Nat), R out → s.heap.objs.size ≤ l → (∀ b o', s.heap.get? b = some o' → h'.get? b = some o') → h'.get? l = some (seqObj "list" out e) → Q (.ref l) { s with heap := h' }) :
    wpAny (model prog w) A (call (.builtin "sorted") [.ref it]) Q E s := by
  have few : (vs.toArray : Array Value).size ≤ sizeLine := by simpa using hsz
  refine Calls.call_function_entry (A := A) kind_sorted plain_sorted entry_sorted (args_sorted1 _) ?_
  delta Builtin.«sorted»
  refine wpAny_bind (m := checkCount _ 1 1 _) (wpAny_pure (wpAny_bind (M.with_size (Nat.le_refl _) (wpAny_collect_seq it hT ho hc hd (fun h' hk hge => wpAny_bind (wpAny_newList ?_ few)) few))))
  have hoL : (h'.push (seqObj "list" vs.toArray 0)).get? h'.objs.size = some (seqObj "list" vs.toArray 0) := Heap.get?_push_size _ rfl
  have hge : s.heap.objs.size ≤ h'.objs.size := hge
  show wpAny _ _ _ _ _ { s with heap := h'.push (seqObj "list" vs.toArray 0) }
  refine wpAny_bind (wpAny_holding (wpAny_call_entry slot_list_sort ⟨_, hoL, rfl⟩ entry_list_sort (sort _ _ _ _ _ _ (by show A.units + 1 + 1 ≤ A.units + 4; omega) (fun b o' hb => ⟨Heap.get?_push_of_some _ (hk b o' hb), Nat.ne_of_lt (Heap.lt_size (hk b o' hb))⟩) hoL fun out r => ⟨_, rfl, ?_⟩) (args_list_sort _)))
  obtain ⟨e, he⟩ := sortedHeap_at (vs := vs) (out := out) hoL
  refine wpAny_pure ⟨_, rfl, h out _ _ e r hge (fun b o' hb => ?_) he⟩
  have hb' := hk b o' hb
  rw [sortedHeap_old (Nat.ne_of_lt (Heap.lt_size hb')) (by rw [size_push']; exact Nat.lt_succ_of_lt (Heap.lt_size hb'))]
  exact Heap.get?_push_of_some _ hb'
end TS

namespace M
open PySem PySem.Spec PyProof.Rows L2
open HT (lexLt)
variable [Tabs]
theorem vals_perm : ∀ {us us' : List Value}, us'.Perm us → ∀ {xs : List V}, Vals xs us → ∃ ys : List V, ys.Perm xs ∧ Vals ys us' := fun {us us'} h => by
  induction h with
  | nil => intro xs r; cases r; exact ⟨[], .refl _, .nil⟩
  | @cons u l l' h ih =>
    intro xs r
    cases r with
    | cons r t =>
      obtain ⟨ys, h1, h2⟩ := ih t
      exact ⟨_ :: ys, h1.cons _, .cons r h2⟩
  | swap u v l =>
    intro xs r
    cases r with
    | cons r t =>
      cases t with
      | cons r2 t => exact ⟨_, List.Perm.swap _ _ _, .cons r2 (.cons r t)⟩
  | trans h1 h2 ih1 ih2 =>
    intro xs r
    obtain ⟨ys, p1, v1⟩ := ih2 r
    obtain ⟨zs, p2, v2⟩ := ih1 v1
    exact ⟨zs, p2.trans p1, v2⟩
theorem pairwise_vals {R : Value → Value → Prop} {S : V → V → Prop} : ∀ {ys : List V} {us : List Value}, Vals ys us → us.Pairwise R → (∀ x y u v, x ∈ ys → y ∈ ys → RelV x u → RelV y v → R u v → S x y) → ys.Pairwise S
  | _, _, .nil, _, _ => List.Pairwise.nil
  | _, _, .cons (l₁ := ys) (l₂ := us) (a := x) (b := u) r t, h, f => by
    rw [List.pairwise_cons] at h ⊢
    refine ⟨fun y hy => ?_, pairwise_vals t h.2 fun x y u v hx hy => f x y u v (List.mem_cons_of_mem _ hx) (List.mem_cons_of_mem _ hy)⟩
    obtain ⟨i, hi, e⟩ := List.getElem_of_mem hy
    obtain ⟨v, h1, h2⟩ := Vals.get t (List.getElem?_eq_some_iff.mpr ⟨hi, e⟩)
    exact f x y u v List.mem_cons_self (List.mem_cons_of_mem _ hy) r h2 (h.1 v (List.mem_of_getElem? h1))
theorem vals_mem : ∀ {xs : List V} {us : List Value}, Vals xs us → ∀ u ∈ us, ∃ x ∈ xs, RelV x u
  | _, _, .nil, u, h => by cases h
  | _, _, .cons r t, u, h => by
    rcases List.mem_cons.mp h with rfl | h
    · exact ⟨_, List.mem_cons_self, r⟩
    · obtain ⟨x, hx, hr⟩ := vals_mem t u h
      exact ⟨x, List.mem_cons_of_mem _ hx, hr⟩
/-- the sorted pairs, as values -/
theorem out_vals {vs : List Value} {out : Array Keyed} (hp : out.Perm (pairsOf vs)) : (out.map (·.2)).toList.Perm vs ∧ ∀ p ∈ out.toList, p.1 = p.2 ∧ p.1 ∈ vs := by
  have hp := Array.perm_iff_toList_perm.mp hp
  rw [pairsOf_toList] at hp
  refine ⟨?_, fun p h => mem_zip_self (hp.mem_iff.mp h)⟩
  rw [Array.toList_map]
  have h2 := hp.map (fun p : Keyed => p.2)
  have e : (vs.zip vs).map (fun p : Keyed => p.2) = vs := by rw [List.map_snd_zip (Nat.le_refl _)]
  rw [e] at h2
  exact h2
def TupV (K : PySem.W.Frag) (H : Hp) (v : V) (ns : List Int) : Prop := ∃ a, v = .ref a ∧ SqT K H a (ns.map V.int)
section
variable {X : Cx}
theorem src_of {pins : List (Addr × Obj)} {s : Shared} {σ : L2.St} {H : Hp} {a : Addr} {xs : List V} (I : Inv X pins σ H s) (hs : SqL X.K H a xs ∨ SqT X.K H a xs) : ∃ (its : List Value) (T : String) (o : Obj) (n : Nat), Vals xs its ∧ (T = "list" ∨ T = "tuple") ∧ s.heap.get? a = some o ∧ o.cls = .type T ∧ o.data = .seq its.toArray n ∧ xs.length ≤ sizeLine := by
  rcases hs with hs | hs
  · obtain ⟨its, rv, ⟨o, n, e, c, _, d⟩, hl⟩ := I.list hs
    exact ⟨its, "list", o, n, rv, .inl rfl, e, c, d, hl⟩
  · obtain ⟨its, rv, ⟨o, e, c, n, d⟩, hl⟩ := I.tuple hs
    exact ⟨its, "tuple", o, n, rv, .inr rfl, e, c, d, hl⟩
theorem tupK_of {pins : List (Addr × Obj)} {s : Shared} {σ : L2.St} {H : Hp} {x : V} {u : Value} {ns : List Int} (I : Inv X pins σ H s) (ht : TupV X.K H x ns) (r : RelV x u) : TS.tupK s.heap u ns := by
  obtain ⟨a, rfl, h⟩ := ht
  obtain ⟨its, rv, p, _⟩ := I.tuple h
  exact ⟨a, its.toArray, r, p, by simpa using rv.ints⟩
/-- sorted of ints, of tuples of ints -/
def rSortI (K : PySem.W.Frag) : List V → Hp → VK → Prop := fun vs H Q => ∃ (a : Addr) (ns : List Int), vs = [V.ref a] ∧ (SqL K H a (ns.map V.int) ∨ SqT K H a (ns.map V.int)) ∧
  ∀ (ns' : List Int) (p : Addr), ns'.Perm ns → ns'.Pairwise (· ≤ ·) → H p = none → Q (.ref p) (upd H p (.lst (ns'.map V.int)))
def rSortT (K : PySem.W.Frag) : List V → Hp → VK → Prop := fun vs H Q => ∃ (a : Addr) (xs : List V), vs = [V.ref a] ∧ (SqL K H a xs ∨ SqT K H a xs) ∧ (∀ x ∈ xs, ∃ ns, TupV K H x ns) ∧
  ∀ (ys : List V) (p : Addr), ys.Perm xs → ys.Pairwise (fun x y => ∀ ns ms, TupV K H x ns → TupV K H y ms → lexLt ms ns = false) → H p = none → Q (.ref p) (upd H p (.lst ys))
theorem cr_sortT (hu : X.A.units + 64 < cLine) : CallR X (.builtin "sorted") (rSortT X.K) := by
  intro pins s σ H vs us Q I r h
  obtain ⟨a, xs, rfl, hs, ht, q⟩ := h
  rw [Vals.ref1 r]
  obtain ⟨its, T, o, n, rv, hT, e, c, d, hl⟩ := src_of I hs
  have hlen : its.length ≤ sizeLine := by rw [← rv.length]; exact hl
  have tk : ∀ u ∈ its, ∃ ns, TS.tupK s.heap u ns := fun u hu => by
    obtain ⟨x, hx, rx⟩ := vals_mem rv u hu
    obtain ⟨ns, hn⟩ := ht x hx
    exact ⟨ns, tupK_of I hn rx⟩
  refine TS.sorted_of (R := fun out => ∃ ko : Array Keyed, out = ko.map (·.2) ∧ ko.Perm (pairsOf its) ∧ ko.toList.Pairwise (TS.leq fun x y => lexLt (TS.keyN s.heap x.1) (TS.keyN s.heap y.1))) hT e c d hlen (fun A' E s' a' n' P hA hk ho hP => ?_) fun out h' l ep ⟨ko, e1, hp, hz⟩ hge hkp he => ?_
  · -- the comparisons, in the state that is sorted in
    have kp : ∀ (s'' : Shared), (∀ b o, b ≠ a' → s'.heap.get? b = some o → s''.heap.get? b = some o) → ∀ b o, s.heap.get? b = some o → s''.heap.get? b = some o := fun s'' k b o e => k b o (hk b o e).2 (hk b o e).1
    have tk2 : ∀ (s'' : Shared), (∀ b o, s.heap.get? b = some o → s''.heap.get? b = some o) → ∀ u ns, TS.tupK s.heap u ns → TS.tupK s''.heap u ns := fun s'' k u ns ⟨b, its, e, p, i⟩ => ⟨b, its, e, p.keeps k, i⟩
    refine TS.list_sort_gen (KD := fun kd => (∃ f, kd = tuples' f) ∨ kd = general' ∨ kd = oneType') (D := TS.DT s.heap) (less := fun x y => lexLt (TS.keyN s.heap x.1) (TS.keyN s.heap y.1)) ho hlen (fun s'' Q k _ q => ?_) (fun s'' kd k hkd => ?_) (fun v hv => ⟨rfl, tk v hv⟩) fun out hp hz => hP _ ⟨out, rfl, hp, hz⟩
    · exact TS.wp_keyKind (fun v hv => by obtain ⟨ns, hn⟩ := tk v hv; exact ⟨ns, tk2 s'' (kp s'' k) v ns hn⟩) q
    · have C := TS.cmp_tup (prog := X.prog) (w := X.w) (A := A') (E := E) (s := s'') (by omega) hkd
      have eq : ∀ x, TS.DT s.heap x → TS.keyN s''.heap x.1 = TS.keyN s.heap x.1 := fun x ⟨_, ns, hn⟩ => by rw [TS.keyN_tup hn, TS.keyN_tup (tk2 s'' (kp s'' k) _ ns hn)]
      have dd : ∀ x, TS.DT s.heap x → TS.DT s''.heap x := fun x ⟨h1, ns, hn⟩ => ⟨h1, ns, tk2 s'' (kp s'' k) _ ns hn⟩
      refine ⟨fun x y st Q dx dy hks q => C.ans x y st Q (dd x dx) (dd y dy) hks ?_, fun x _ => TS.lex_irr _, fun x y _ _ h => TS.lex_asy _ _ h, fun x y z _ _ _ h1 h2 => TS.lex_tr _ _ _ h1 h2⟩
      rw [eq x dx, eq y dy]
      exact q
  · obtain ⟨hperm, hmem⟩ := out_vals hp
    subst e1
    obtain ⟨ys, p1, v1⟩ := vals_perm hperm rv
    have hle : ys.length ≤ sizeLine := by rw [p1.length_eq]; exact hl
    refine ⟨.ref _, upd H l (.lst ys), I.laid (t' := s.toks) hkp hge ⟨hle, _, ep, v1, by rw [Array.toArray_toList]; exact he⟩, rfl, q ys l p1 ?_ (I.hok.fresh hge)⟩
    have hz2 : (ko.map (·.2)).toList.Pairwise (fun u v => lexLt (TS.keyN s.heap v) (TS.keyN s.heap u) = false) := by
      rw [Array.toList_map, List.pairwise_map]
      refine List.Pairwise.imp_of_mem (fun {p q} hp hq h => ?_) hz
      have h : lexLt (TS.keyN s.heap q.1) (TS.keyN s.heap p.1) = false := h
      rw [(hmem p hp).1, (hmem q hq).1] at h
      exact h
    refine pairwise_vals v1 hz2 fun x y u v _ _ rx ry h ns ms hx hy => ?_
    rw [TS.keyN_tup (tupK_of I hx rx), TS.keyN_tup (tupK_of I hy ry)] at h
    exact h
def DI (p : Keyed) : Prop := p.1 = p.2 ∧ ∃ n t, p.1 = Value.int n t
omit [Tabs] in
theorem cmp_int {prog : Program} {w : World} {A : Around} {E : Value → Shared → Prop} {s : Shared} : TS.Cmp (model prog w) A E s oneType' DI (fun x y => decide (numOf x.1 < numOf y.1)) := by
  refine ⟨fun x y st Q dx dy hks q => ?_, fun x _ => decide_eq_false (by omega), fun x y _ _ h => decide_eq_false (by have := of_decide_eq_true h; omega), fun x y z _ _ _ h1 h2 => decide_eq_false (by have := of_decide_eq_false h1; have := of_decide_eq_false h2; omega)⟩
  obtain ⟨_, n, t, hx⟩ := dx
  obtain ⟨_, m, u, hy⟩ := dy
  rw [lt'_eq]
  refine wpS_bind (wpS_get (wpS_bind ?_))
  rw [hks, hx, hy, keyLt'_oneType]
  rw [hx, hy] at q
  exact wpS_lift (wpAny_attempt (oneLt_int ⟨rfl, wpS_pure q⟩))
theorem cr_sortI : CallR X (.builtin "sorted") (rSortI X.K) := by
  intro pins s σ H vs us Q I r h
  obtain ⟨a, ns, rfl, hs, q⟩ := h
  rw [Vals.ref1 r]
  obtain ⟨its, T, o, n, rv, hT, e, c, d, hl⟩ := src_of I hs
  have hi := rv.ints
  have hlen : its.length ≤ sizeLine := by rw [← rv.length]; exact hl
  have di : ∀ v ∈ its, DI (v, v) := fun v hv => ⟨rfl, hi.all v hv⟩
  refine TS.sorted_of (R := fun out => ∃ ko : Array Keyed, out = ko.map (·.2) ∧ ko.Perm (pairsOf its) ∧ ko.toList.Pairwise (TS.leq fun x y => decide (numOf x.1 < numOf y.1))) hT e c d hlen (fun A' E s' a' n' P hA hk ho hP => ?_) fun out h' l ep ⟨ko, e1, hp, hz⟩ hge hkp he => ?_
  · refine TS.list_sort_gen (KD := fun kd => kd = oneType') (D := DI) (less := fun x y => decide (numOf x.1 < numOf y.1)) ho hlen (fun s'' Q k h2 q => ?_) (fun s'' kd k hkd => by subst hkd; exact cmp_int) di fun out hp hz => hP _ ⟨out, rfl, hp, hz⟩
    match its, hi, h2 with
    | v₁ :: v₂ :: rest, hi, _ =>
      rw [keyKind_ints hi]
      exact wpAny_pure (q _ rfl)
  · obtain ⟨hperm, hmem⟩ := out_vals hp
    subst e1
    have hi2 : IntsAre (ko.map (·.2)).toList ((ko.map (·.2)).toList.map numOf) := intsAre_map _ fun v hv => hi.all v (hperm.mem_iff.mp hv)
    have hp2 : ((ko.map (·.2)).toList.map numOf).Perm ns := by
      have := hperm.map numOf
      rw [hi.nums] at this
      exact this
    have hle : (((ko.map (·.2)).toList.map numOf).map V.int).length ≤ sizeLine := by rw [List.length_map, hp2.length_eq]; rw [List.length_map] at hl; exact hl
    refine ⟨.ref _, upd H l (.lst (((ko.map (·.2)).toList.map numOf).map V.int)), I.laid (t' := s.toks) hkp hge ⟨hle, _, ep, vals_of_ints hi2, by rw [Array.toArray_toList]; exact he⟩, rfl, q _ l hp2 ?_ (I.hok.fresh hge)⟩
    rw [List.pairwise_map, Array.toList_map, List.pairwise_map]
    refine List.Pairwise.imp_of_mem (fun {p q} hp hq h => ?_) hz
    have h : decide (numOf q.1 < numOf p.1) = false := h
    rw [(hmem p hp).1, (hmem q hq).1] at h
    have := of_decide_eq_false h
    omega
end
/-! ### plainly -/
def tv (ns : List Int) : PV := .tup (ns.map PV.int)
def pSort : PSp
  | [p], S, Q => (∃ ns : List Int, Sq S p (ns.map PV.int) ∧ ∀ ns' : List Int, ns'.Perm ns → ns'.Pairwise (· ≤ ·) → Q (.ref S.length) (S ++ [.lst (ns'.map PV.int)])) ∨
    (∃ rows : List (List Int), Sq S p (rows.map tv) ∧ ∀ rows' : List (List Int), rows'.Perm rows → rows'.Pairwise (fun a b => HT.lexLt b a = false) → Q (.ref S.length) (S ++ [.lst (rows'.map tv)]))
  | _, _, _ => False
theorem rvs_perm {K : PySem.W.Frag} {ι : List Addr} {H : Hp} : ∀ {vs vs' : List V}, vs'.Perm vs → ∀ {xs : List PV}, RVs K ι H xs vs → ∃ ys : List PV, ys.Perm xs ∧ RVs K ι H ys vs' := fun {vs vs'} h => by
  induction h with
  | nil => intro xs r; cases r; exact ⟨[], .refl _, .nil⟩
  | @cons u l l' h ih =>
    intro xs r
    cases r with
    | cons r t =>
      obtain ⟨ys, h1, h2⟩ := ih t
      exact ⟨_ :: ys, h1.cons _, .cons r h2⟩
  | swap u v l =>
    intro xs r
    cases r with
    | cons r t =>
      cases t with
      | cons r2 t => exact ⟨_, List.Perm.swap _ _ _, .cons r2 (.cons r t)⟩
  | trans h1 h2 ih1 ih2 =>
    intro xs r
    obtain ⟨ys, p1, v1⟩ := ih2 r
    obtain ⟨zs, p2, v2⟩ := ih1 v1
    exact ⟨zs, p2.trans p1, v2⟩
def unT : PV → List Int
  | .tup xs => xs.map fun p => match p with | .int i => i | _ => 0
  | _ => []
theorem un_tv (ns : List Int) : unT (tv ns) = ns := by
  show (ns.map PV.int).map _ = ns
  rw [List.map_map]
  exact List.map_id'' (fun _ => rfl) ns
theorem rows_of {rows : List (List Int)} {ys : List PV} (h : ys.Perm (rows.map tv)) : ∃ rows' : List (List Int), rows'.Perm rows ∧ ys = rows'.map tv := by
  refine ⟨ys.map unT, ?_, ?_⟩
  · have := h.map unT
    rw [List.map_map, List.map_id'' (f := unT ∘ tv) (fun x => un_tv x)] at this
    exact this
  · have e : ∀ y ∈ ys, (tv ∘ unT) y = id y := fun y hy => by
      obtain ⟨ns, _, rfl⟩ := List.mem_map.mp (h.mem_iff.mp hy)
      show tv (unT (tv ns)) = tv ns
      rw [un_tv]
    rw [List.map_map, List.map_congr_left e, List.map_id]
theorem b_sort {X : Cx} (hu : X.A.units + 64 < cLine) : CR1 X (.builtin "sorted") pSort := ⟨_, CallR.or cr_sortI (cr_sortT hu), fun ι H S xs vs Qp Q s rx h k => by
  match xs, rx, h with
  | [p], rx, .inl ⟨ns, hy, q⟩ =>
    obtain ⟨v, rfl, r⟩ := rx.one
    obtain ⟨a, ws, rfl, h1, h2⟩ := s.sq r hy
    obtain rfl := h2.ints_of
    exact .inl ⟨a, ns, rfl, h1, fun ns' p hp hs hn => new_list s (.ints ns') k (q ns' hp hs) p hn⟩
  | [p], rx, .inr ⟨rows, hy, q⟩ =>
    obtain ⟨v, rfl, r⟩ := rx.one
    obtain ⟨a, ws, rfl, h1, h2⟩ := s.sq r hy
    have tu : ∀ {ps : List PV} {vs : List V}, RVs X.K ι H ps vs → (∀ p ∈ ps, ∃ ns, p = tv ns) → ∀ x ∈ vs, ∃ ns, TupV X.K H x ns := by
      intro ps
      induction ps with
      | nil => intro vs r _ x hx; cases r; cases hx
      | cons p ps ih =>
        intro vs r hp x hx
        cases r with
        | cons r t =>
          rcases List.mem_cons.mp hx with rfl | hx
          · obtain ⟨ns, rfl⟩ := hp p List.mem_cons_self
            cases r with
            | tup ha ra => exact ⟨ns, _, rfl, by rw [ra.ints_of] at ha; exact ha⟩
          · exact ih t (fun z hz => hp z (List.mem_cons_of_mem _ hz)) x hx
    refine .inr ⟨a, ws, rfl, h1, tu h2 (fun p hp => by obtain ⟨ns, _, e⟩ := List.mem_map.mp hp; exact ⟨ns, e.symm⟩), fun ys p hp hs hn => ?_⟩
    obtain ⟨zs, pz, rz⟩ := rvs_perm hp h2
    obtain ⟨rows', pr, rfl⟩ := rows_of pz
    refine new_list s rz k (q rows' pr ?_) p hn
    -- sorted
    clear q pr pz hp
    induction rows' generalizing ys with
    | nil => exact List.Pairwise.nil
    | cons n rows' ih =>
      cases rz with
      | cons r t =>
        rw [List.pairwise_cons] at hs ⊢
        refine ⟨fun m hm => ?_, ih _ hs.2 t⟩
        obtain ⟨j, hj, e⟩ := List.getElem_of_mem hm
        have hg : (rows'.map tv)[j]? = some (tv m) := by rw [List.getElem?_map, List.getElem?_eq_some_iff.mpr ⟨hj, e⟩]; rfl
        obtain ⟨v2, g1, g2⟩ := t.get hg
        have toT : ∀ {n : List Int} {v : V}, RV X.K ι H (tv n) v → TupV X.K H v n := fun {n v} r => by
          cases r with
          | tup ha ra => exact ⟨_, rfl, by rw [ra.ints_of] at ha; exact ha⟩
        exact hs.1 v2 (List.mem_of_getElem? g1) n m (toT r) (toT g2)⟩
end M

namespace M
open PySem PySem.Spec PyProof.Rows L2
variable [Tabs]

/-! ### comprehensions with two fors, a name each: the new list lies in the store from the start, at n0 -/
/-- how an iterator's turns read, C said of each state -/
def Walk (K : PySem.W.Frag) (J : It) (ι1 : List Addr) (H1 : Hp) (C : Sto → Prop) (xs : List PV) : Prop := ∀ ι' H' S' j, Fut K ι1 H1 ι' H' → RS K ι' H' S' → C S' → (j < xs.length → J.go j H' ∧ ∀ x H2, J.yld j H' x H2 → ∃ p, xs[j]? = some p ∧ RV K ι' H2 p x ∧ Fut K ι' H' ι' H2 ∧ ∀ S, RS K ι' H' S → RS K ι' H2 S) ∧ (xs.length ≤ j → J.stop j H')
theorem Walk.its {K : PySem.W.Frag} {J : It} {ι1 : List Addr} {H1 : Hp} {xs : List PV} (rj : RIt K J ι1 H1 (.its xs)) : Walk K J ι1 H1 (fun _ => True) xs := fun ι' H' S' j f2 s2 _ => rj.fut f2 ι' H' .refl j
theorem Walk.lst {K : PySem.W.Frag} {J : It} {ι1 : List Addr} {H1 : Hp} {n : Nat} {xs : List PV} (rj : RIt K J ι1 H1 (.lst n)) : Walk K J ι1 H1 (fun S => SL S n xs) xs := fun ι' H' S' j f2 s2 hc => by
  obtain ⟨a, ha, rfl⟩ := rj
  have ha2 := f2.pre n a ha
  obtain ⟨vs, h1, h2⟩ := s2.sl ha2 hc
  refine ⟨fun hj => ⟨?_, fun x H2 hy => ?_⟩, fun hj => ⟨vs, h1, by rw [← h2.length]; exact hj⟩⟩
  · have hl : j < vs.length := by rw [← h2.length]; exact hj
    exact ⟨vs, vs[j], h1, by simp [hl]⟩
  · obtain ⟨e, hy⟩ := hy
    subst e
    obtain ⟨p, e1, rv⟩ := h2.get' (hy vs h1)
    exact ⟨p, e1, rv, .refl, fun S s => s⟩
section
variable {X : Cx} {elt iter iter1 : Expr} {ifs ifs1 : List Expr} {scope : Scope} {x x1 : Str} {pos px px1 : Pos} {wi wi1 : WI} {t t1 : WT} {e : WE}
end
end M

/-! list.sort and sorted with key=len, at any length. -/
namespace TS
open PySem PySem.Spec PyProof.Rows L2
variable {prog : Program} {w : World} {A : Around} {E : Value → Shared → Prop} {s : Shared}
/-- a tuple of so many -/
def TupL (h : Heap) (v : Value) (k : Int) : Prop := ∃ b its, v = .ref b ∧ IsTup h b its ∧ (its.size : Int) = k ∧ its.size ≤ sizeLine
end TS

/-! sorted(.., key=len), in plain values. -/
namespace TS
open PySem PySem.Spec PyProof.Rows L2
variable {prog : Program} {w : World} {A : Around} {E : Value → Shared → Prop} {s : Shared}
theorem TupL.len {h : Heap} {v : Value} {k : Int} {ns : List Int} (x : TupL h v k) (y : tupK h v ns) : k = ns.length := by
  obtain ⟨b, its, rfl, ⟨o, e, _, n, d⟩, rfl, _⟩ := x
  obtain ⟨b', its', e', ⟨o', e2, _, n', d'⟩, i⟩ := y
  injection e' with e'
  subst e'
  rw [e] at e2
  injection e2 with e2
  subst e2
  rw [d] at d'
  injection d' with d1 _
  subst d1
  have := i.length
  rw [Array.length_toList] at this
  omega
end TS
namespace M
open PySem PySem.Spec PyProof.Rows L2
variable [Tabs]
section
variable {X : Cx} {x y : Str} {p py kp pos : Pos} {e : Expr} {t : TA}
end
section
variable {X : Cx} {x y : Str} {p py kp pos : Pos} {e : Expr} {g : WA}
end
end M

/-! The probing of a set's table, as numbers alone. -/
namespace ST
open PySem PySem.SetTable
/-! ### below -/
theorem below_go {l1 l2 : List Nat} {j : Nat} (h1 : ∀ x ∈ l1, x < j) (h2 : ∀ x ∈ l2, j ≤ x) : ∀ (f lo hi : Nat), hi - lo ≤ f → lo ≤ l1.length → l1.length ≤ hi → hi ≤ (l1 ++ l2).length → below.go (l1 ++ l2).toArray j f lo hi = l1.length := by
  intro f
  induction f with
  | zero => intro lo hi hf a b _; show lo = _; omega
  | succ f ih =>
    intro lo hi hf a b c
    unfold below.go
    by_cases hlt : lo < hi
    · rw [if_pos hlt]
      have hm1 : lo ≤ (lo + hi) / 2 := by omega
      have hm2 : (lo + hi) / 2 < hi := by omega
      have hm3 : (lo + hi) / 2 < (l1 ++ l2).length := by omega
      have hg : (l1 ++ l2).toArray.getD ((lo + hi) / 2) j = (l1 ++ l2)[(lo + hi) / 2] := by
        rw [Array.getD_eq_getD_getElem?, List.getElem?_toArray, List.getElem?_eq_getElem hm3]; rfl
      dsimp only
      rw [hg]
      by_cases hc : (lo + hi) / 2 < l1.length
      · rw [List.getElem_append_left hc, if_pos (h1 _ (List.getElem_mem hc))]
        exact ih _ _ (by omega) (by omega) b c
      · rw [List.getElem_append_right (by omega), if_neg (by have := h2 _ (List.getElem_mem (l := l2) (n := (lo + hi) / 2 - l1.length) (by rw [List.length_append] at hm3; omega)); omega)]
        exact ih _ _ (by omega) a (by omega) (by omega)
    · rw [if_neg hlt]; omega
theorem below_at {l1 l2 : List Nat} {j : Nat} (h1 : ∀ x ∈ l1, x < j) (h2 : ∀ x ∈ l2, j ≤ x) : below (l1 ++ l2).toArray j = l1.length := by
  unfold below
  exact below_go h1 h2 _ _ _ (by simp) (Nat.zero_le _) (by simp) (by simp)
/-! ### the way of a probe -/
def adv (mask : Nat) (p : Probe) : Probe :=
  if 0 < p.more then { p with more := p.more - 1, j := p.j + 1 } else
  { p with j := (leap mask p.i p.perturb).1, more := runEnd mask (leap mask p.i p.perturb).1 - (leap mask p.i p.perturb).1, i := (leap mask p.i p.perturb).1, perturb := (leap mask p.i p.perturb).2 }
def rs (mask : Nat) (q : Nat × Nat) : Probe := { j := q.1, more := runEnd mask q.1 - q.1, i := q.1, perturb := q.2, dummy := none }
def RR (mask : Nat) (h : Int) : Nat → Nat × Nat
  | 0 => (bits h % (mask + 1), bits h)
  | k + 1 => leap mask (RR mask h k).1 (RR mask h k).2
def PP (mask : Nat) (h : Int) : Nat → Probe
  | 0 => rs mask (RR mask h 0)
  | m + 1 => adv mask (PP mask h m)
theorem advance_eq (t : SetTable) (p : Probe) : t.advance p = adv t.mask p := rfl
theorem more_le (mask i : Nat) : runEnd mask i - i ≤ 9 := by unfold runEnd; split <;> omega
theorem PP_run {mask : Nat} {h : Int} {m : Nat} {q : Nat × Nat} (e : PP mask h m = rs mask q) : ∀ r, r ≤ runEnd mask q.1 - q.1 → PP mask h (m + r) = { rs mask q with j := q.1 + r, more := runEnd mask q.1 - q.1 - r } := by
  intro r
  induction r with
  | zero => intro _; exact e
  | succ r ih =>
    intro hr
    show adv mask (PP mask h (m + r)) = _
    rw [ih (by omega)]
    unfold adv
    rw [if_pos (by show runEnd mask q.1 - q.1 - r > 0; omega)]
    simp only [rs, Probe.mk.injEq, and_true, true_and]
    omega
theorem PP_next {mask : Nat} {h : Int} {m : Nat} {q : Nat × Nat} (e : PP mask h m = rs mask q) : PP mask h (m + (runEnd mask q.1 - q.1) + 1) = rs mask (leap mask q.1 q.2) := by
  show adv mask (PP mask h (m + (runEnd mask q.1 - q.1))) = _
  rw [PP_run e _ (Nat.le_refl _)]
  unfold adv
  rw [if_neg (by show ¬ runEnd mask q.1 - q.1 - (runEnd mask q.1 - q.1) > 0; omega)]
  rfl
theorem PP_RR (mask : Nat) (h : Int) : ∀ k, ∃ m, m ≤ 10 * k ∧ PP mask h m = rs mask (RR mask h k) := by
  intro k
  induction k with
  | zero => exact ⟨0, by omega, rfl⟩
  | succ k ih =>
    obtain ⟨m, hm, e⟩ := ih
    exact ⟨_, by have := more_le mask (RR mask h k).1; omega, PP_next e⟩
/-! ### it comes by every place -/
def itr (n : Nat) : Nat → Nat → Nat
  | 0, i => i
  | k + 1, i => (itr n k i * 5 + 1) % n
def orb (n : Nat) : Nat → Nat → List Nat
  | 0, _ => []
  | k + 1, i => i :: orb n k ((i * 5 + 1) % n)
theorem itr_shift (n : Nat) : ∀ k i, itr n k ((i * 5 + 1) % n) = itr n (k + 1) i
  | 0, _ => rfl
  | k + 1, i => by show (itr n k _ * 5 + 1) % n = _; rw [itr_shift n k i]; rfl
theorem itr_add (n : Nat) (a : Nat) : ∀ b i, itr n b (itr n a i) = itr n (a + b) i
  | 0, _ => rfl
  | b + 1, i => by show (itr n b _ * 5 + 1) % n = _; rw [itr_add n a b i]; rfl
theorem orb_mem (n : Nat) : ∀ k i x, x ∈ orb n k i → ∃ b, b < k ∧ itr n b i = x
  | 0, _, _, h => by cases h
  | k + 1, i, x, h => by
    rcases List.mem_cons.mp h with rfl | h
    · exact ⟨0, by omega, rfl⟩
    · obtain ⟨b, h1, h2⟩ := orb_mem n k _ x h
      exact ⟨b + 1, by omega, by rw [← itr_shift]; exact h2⟩
def full (n : Nat) : Bool := (List.range n).all (fun j => (orb n n 0).contains j) && itr n n 0 == 0
theorem full_all : ∀ n ∈ [8, 32, 128, 512], full n = true := by decide +kernel
theorem full_ok {n : Nat} (h : full n = true) : (∀ j < n, ∃ b, b < n ∧ itr n b 0 = j) ∧ itr n n 0 = 0 := by
  unfold full at h
  rw [Bool.and_eq_true] at h
  refine ⟨fun j hj => ?_, by simpa using h.2⟩
  have := List.all_eq_true.mp h.1 j (List.mem_range.mpr hj)
  exact orb_mem n n 0 j (by simpa using this)
theorem itr_cover {n : Nat} (h : full n = true) {i j : Nat} (hi : i < n) (hj : j < n) : ∃ b, b < n ∧ itr n b i = j := by
  obtain ⟨c, z⟩ := full_ok h
  obtain ⟨a, ha, ea⟩ := c i hi
  obtain ⟨b, hb, eb⟩ := c j hj
  have turn : ∀ b, itr n (n + b) 0 = itr n b 0 := fun b => by rw [← itr_add, z]
  rcases Nat.lt_or_ge b a with hlt | hge
  · refine ⟨n + b - a, by omega, ?_⟩
    rw [← ea, itr_add, show a + (n + b - a) = n + b by omega, turn, eb]
  · refine ⟨b - a, by omega, ?_⟩
    rw [← ea, itr_add, show a + (b - a) = b by omega, eb]
def okm (mask : Nat) : Prop := mask ∈ [7, 31, 127, 511]
theorem okm.full {mask : Nat} (h : okm mask) : full (mask + 1) = true := by
  refine full_all _ ?_
  simp only [okm, List.mem_cons, List.not_mem_nil, or_false] at h
  rcases h with rfl | rfl | rfl | rfl <;> decide
theorem bits_lt (h : Int) : bits h < 2 ^ 64 := by
  unfold bits
  have := Int.emod_lt_of_pos h (show (0 : Int) < 2 ^ 64 by decide)
  have := Int.emod_nonneg h (show (2 : Int) ^ 64 ≠ 0 by decide)
  omega
theorem RR_per (mask : Nat) (h : Int) : ∀ k, (RR mask h k).2 = bits h / 32 ^ k
  | 0 => by show bits h = _; simp
  | k + 1 => by
    show (RR mask h k).2 / 32 = _
    rw [RR_per mask h k, Nat.div_div_eq_div_mul, Nat.pow_succ]
theorem RR_late (mask : Nat) (h : Int) {k : Nat} (hk : 13 ≤ k) : (RR mask h k).2 = 0 := by
  rw [RR_per]
  refine Nat.div_eq_of_lt (Nat.lt_of_lt_of_le (bits_lt h) (Nat.le_trans (by decide) (Nat.pow_le_pow_right (n := 32) (by decide) hk)))
theorem RR_lt (mask : Nat) (h : Int) : ∀ k, (RR mask h k).1 < mask + 1
  | 0 => Nat.mod_lt _ (by omega)
  | k + 1 => Nat.mod_lt _ (by omega)
theorem RR_itr (mask : Nat) (h : Int) : ∀ b, (RR mask h (12 + b)).1 = itr (mask + 1) b (RR mask h 12).1
  | 0 => rfl
  | b + 1 => by
    have e : (RR mask h (12 + b + 1)).2 = 0 := RR_late mask h (by omega)
    have e2 : (RR mask h (12 + b + 1)).2 = (RR mask h (12 + b)).2 / 32 := rfl
    show ((RR mask h (12 + b)).1 * 5 + 1 + (RR mask h (12 + b)).2 / 32) % (mask + 1) = (itr (mask + 1) b _ * 5 + 1) % (mask + 1)
    rw [← e2, e, RR_itr mask h b, Nat.add_zero]
theorem RR_cover {mask : Nat} (ok : okm mask) (h : Int) {j : Nat} (hj : j ≤ mask) : ∃ k, k < turns mask ∧ (RR mask h k).1 = j := by
  obtain ⟨b, hb, e⟩ := itr_cover ok.full (RR_lt mask h 12) (show j < mask + 1 by omega)
  exact ⟨12 + b, by unfold turns; omega, by rw [RR_itr, e]⟩
theorem PP_cover {mask : Nat} (ok : okm mask) (h : Int) {j : Nat} (hj : j ≤ mask) : ∃ m, m < 10 * turns mask ∧ (PP mask h m).j = j := by
  obtain ⟨k, hk, e⟩ := RR_cover ok h hj
  obtain ⟨m, hm, e2⟩ := PP_RR mask h k
  exact ⟨m, by omega, by rw [e2]; exact e⟩
/-! ### a free place -/
theorem gap : ∀ (l : List Nat) (a n : Nat), l.Pairwise (· < ·) → (∀ x ∈ l, a ≤ x) → l.length ≤ n → ∃ j, a ≤ j ∧ j ≤ a + n ∧ j ∉ l
  | [], a, n, _, _, _ => ⟨a, by omega, by omega, by simp⟩
  | x :: l, a, n, hp, hx, hl => by
    rw [List.pairwise_cons] at hp
    by_cases e : x = a
    · obtain ⟨j, h1, h2, h3⟩ := gap l (a + 1) (n - 1) hp.2 (fun y hy => by have := hp.1 y hy; omega) (by simp at hl; omega)
      simp only [List.length_cons] at hl
      exact ⟨j, by omega, by omega, by simp only [List.mem_cons, not_or]; exact ⟨by omega, h3⟩⟩
    · have := hx x List.mem_cons_self
      refine ⟨a, by omega, by omega, ?_⟩
      simp only [List.mem_cons, not_or]
      exact ⟨fun h => e h.symm, fun h => by have := hp.1 a h; omega⟩
end ST

/-! A set's table with a place, a key and a value in each row. -/
namespace ST
open PySem PySem.SetTable
variable {K : Type} (hf : K → Int)
abbrev Row (K : Type) := Nat × K × Value
def Occ (zs : List (Row K)) (j : Nat) : Prop := ∃ e ∈ zs, e.1 = j
def plc (zs : List (Row K)) : Array Nat := (zs.map (·.1)).toArray
def ent (zs : List (Row K)) : Array (Int × Value) := (zs.map fun e => (hf e.2.1, e.2.2)).toArray
def Ris (zs : List (Row K)) : Prop := zs.Pairwise (fun a b => a.1 < b.1)
def Rch (mask : Nat) (zs : List (Row K)) : Prop := ∀ e ∈ zs, ∃ m, (PP mask (hf e.2.1) m).j = e.1 ∧ ∀ m' < m, Occ zs (PP mask (hf e.2.1) m').j
structure Tab (zs : List (Row K)) (t : SetTable) : Prop where
  place : t.place = plc zs
  dum : t.dummies = #[]
  ok : okm t.mask
  ris : Ris zs
  le : ∀ e ∈ zs, e.1 ≤ t.mask
  room : zs.length ≤ t.mask
  rch : Rch hf t.mask zs
variable {hf}
theorem split (zs : List (Row K)) (h : Ris zs) (j : Nat) : ∃ z1 z2, zs = z1 ++ z2 ∧ (∀ e ∈ z1, e.1 < j) ∧ (∀ e ∈ z2, j ≤ e.1) := by
  induction zs with
  | nil => exact ⟨[], [], rfl, by simp, by simp⟩
  | cons z zs ih =>
    unfold Ris at h
    rw [List.pairwise_cons] at h
    by_cases c : z.1 < j
    · obtain ⟨z1, z2, rfl, a, b⟩ := ih h.2
      exact ⟨z :: z1, z2, rfl, fun e he => by
        rcases List.mem_cons.mp he with rfl | he
        · exact c
        · exact a e he, b⟩
    · exact ⟨[], z :: zs, rfl, by simp, fun e he => by
        rcases List.mem_cons.mp he with rfl | he
        · omega
        · have := h.1 e he; omega⟩
theorem below_split {z1 z2 : List (Row K)} {j : Nat} (h1 : ∀ e ∈ z1, e.1 < j) (h2 : ∀ e ∈ z2, j ≤ e.1) : below (plc (z1 ++ z2)) j = z1.length := by
  unfold plc
  rw [List.map_append]
  have := below_at (l1 := z1.map (·.1)) (l2 := z2.map (·.1)) (j := j) (fun x hx => by obtain ⟨e, he, rfl⟩ := List.mem_map.mp hx; exact h1 e he) (fun x hx => by obtain ⟨e, he, rfl⟩ := List.mem_map.mp hx; exact h2 e he)
  rw [this, List.length_map]
theorem plc_get (zs : List (Row K)) (i : Nat) : (plc zs)[i]? = zs[i]?.map (·.1) := by unfold plc; rw [List.getElem?_toArray, List.getElem?_map]
theorem ent_get (zs : List (Row K)) (i : Nat) : (ent hf zs)[i]? = zs[i]?.map (fun e => (hf e.2.1, e.2.2)) := by unfold ent; rw [List.getElem?_toArray, List.getElem?_map]
theorem plc_size (zs : List (Row K)) : (plc zs).size = zs.length := by unfold plc; simp
theorem ent_size (zs : List (Row K)) : (ent hf zs).size = zs.length := by unfold ent; simp
theorem slot_live {zs : List (Row K)} {t : SetTable} (T : Tab hf zs t) {e : Row K} (he : e ∈ zs) : ∃ i, t.slot e.1 = .live i ∧ zs[i]? = some e := by
  obtain ⟨z1, z2, hz, a, b⟩ := split zs T.ris e.1
  subst hz
  have h2 : z2 ≠ [] := by
    rintro rfl
    rw [List.append_nil] at he
    have := a e he; omega
  obtain ⟨f, z2, rfl⟩ := List.exists_cons_of_ne_nil h2
  have hfe : f = e := by
    rcases List.mem_append.mp he with h | h
    · have := a e h; omega
    · rcases List.mem_cons.mp h with h | h
      · exact h.symm
      · have hr := T.ris
        unfold Ris at hr
        rw [List.pairwise_append] at hr
        have := (List.pairwise_cons.mp hr.2.1).1 e h
        have := b f List.mem_cons_self
        omega
  subst hfe
  refine ⟨z1.length, ?_, by simp⟩
  unfold slot
  dsimp only
  rw [T.place, below_split a b, plc_get]
  simp
theorem slot_empty {zs : List (Row K)} {t : SetTable} (T : Tab hf zs t) {j : Nat} (hj : ¬ Occ zs j) : t.slot j = .empty := by
  obtain ⟨z1, z2, hz, a, b⟩ := split zs T.ris j
  unfold slot
  dsimp only
  rw [T.place, T.dum]
  have h1 : ((plc zs)[below (plc zs) j]? == some j) = false := by
    subst hz
    rw [below_split a b, plc_get]
    cases hc : (z1 ++ z2)[z1.length]? with
    | none => rfl
    | some e =>
      have he := List.mem_of_getElem? hc
      have : e.1 ≠ j := fun x => hj ⟨e, he, x⟩
      simpa using this
  rw [h1]
  have h2 : has #[] j = false := by unfold has; simp
  rw [h2]
  rfl
/-! ### probing -/
inductive Pr (hf : K → Int) (mask : Nat) (zs : List (Row K)) (h : Int) (m : Nat) : Option Met → Prop
  | empty (m' : Nat) (le : m ≤ m') (oc : ∀ x, m ≤ x → x < m' → ∃ e ∈ zs, e.1 = (PP mask h x).j ∧ hf e.2.1 ≠ h) (no : ¬ Occ zs (PP mask h m').j) : Pr hf mask zs h m (some (.empty (PP mask h m').j none))
  | cand (m' i : Nat) (e : Row K) (le : m ≤ m') (oc : ∀ x, m ≤ x → x < m' → ∃ e ∈ zs, e.1 = (PP mask h x).j ∧ hf e.2.1 ≠ h) (at_ : zs[i]? = some e) (pl : e.1 = (PP mask h m').j) (hs : hf e.2.1 = h) : Pr hf mask zs h m (some (.candidate (PP mask h m').j i (PP mask h (m' + 1))))
theorem adv_dummy (mask : Nat) (p : Probe) : (adv mask p).dummy = p.dummy := by unfold adv; split <;> rfl
theorem PP_dummy (mask : Nat) (h : Int) : ∀ m, (PP mask h m).dummy = none
  | 0 => rfl
  | m + 1 => by show (adv mask _).dummy = none; rw [adv_dummy, PP_dummy mask h m]
theorem Tab.free {zs : List (Row K)} {t : SetTable} (T : Tab hf zs t) : ∃ j, j ≤ t.mask ∧ ¬ Occ zs j := by
  obtain ⟨j, _, h2, h3⟩ := gap (zs.map (·.1)) 0 t.mask (by rw [List.pairwise_map]; exact T.ris) (fun _ _ => Nat.zero_le _) (by rw [List.length_map]; exact T.room)
  exact ⟨j, by omega, fun ⟨e, he, ej⟩ => h3 (List.mem_map.mpr ⟨e, he, ej⟩)⟩
/-- the first free place on a way -/
theorem Tab.freeAt {zs : List (Row K)} {t : SetTable} (T : Tab hf zs t) (h : Int) : ∃ m, m < 10 * turns t.mask ∧ ¬ Occ zs (PP t.mask h m).j := by
  obtain ⟨j, h1, h2⟩ := T.free
  obtain ⟨m, hm, e⟩ := PP_cover T.ok h h1
  exact ⟨m, hm, by rw [e]; exact h2⟩
/-! ### laying one row more -/
theorem insertAt_list {α : Type} (a b : List α) (x : α) : insertAt (a ++ b).toArray a.length x = (a ++ x :: b).toArray := by
  unfold insertAt
  apply Array.toList_inj.mp
  simp
theorem insertAt_ent (z1 z2 : List (Row K)) (e : Row K) : insertAt (ent hf (z1 ++ z2)) z1.length (hf e.2.1, e.2.2) = ent hf (z1 ++ e :: z2) := by
  unfold ent
  rw [List.map_append, List.map_append, List.map_cons]
  have := insertAt_list (z1.map fun e => (hf e.2.1, e.2.2)) (z2.map fun e => (hf e.2.1, e.2.2)) (hf e.2.1, e.2.2)
  rw [List.length_map] at this
  exact this
theorem insertAt_plc (z1 z2 : List (Row K)) (e : Row K) : insertAt (plc (z1 ++ z2)) z1.length e.1 = plc (z1 ++ e :: z2) := by
  unfold plc
  rw [List.map_append, List.map_append, List.map_cons]
  have := insertAt_list (z1.map (·.1)) (z2.map (·.1)) e.1
  rw [List.length_map] at this
  exact this
theorem put_eq {zs : List (Row K)} {t : SetTable} (T : Tab hf zs t) {e : Row K} (hno : ¬ Occ zs e.1) : ∃ z1 z2, zs = z1 ++ z2 ∧ t.put e.1 = ({ t with place := plc (z1 ++ e :: z2) }, z1.length) ∧ Ris (z1 ++ e :: z2) := by
  obtain ⟨z1, z2, rfl, a, b⟩ := split zs T.ris e.1
  refine ⟨z1, z2, rfl, ?_, ?_⟩
  · unfold put
    dsimp only
    rw [T.place, below_split a b, insertAt_plc, T.dum]
    have h2 : has #[] e.1 = false := by unfold has; simp
    rw [h2]
    simp only [Bool.false_eq_true, if_false]
  · have hr := T.ris
    unfold Ris at hr ⊢
    rw [List.pairwise_append] at hr ⊢
    refine ⟨hr.1, ?_, ?_⟩
    · rw [List.pairwise_cons]
      exact ⟨fun x hx => by
        have := b x hx
        have : x.1 ≠ e.1 := fun q => hno ⟨x, List.mem_append_right _ hx, q⟩
        omega, hr.2.1⟩
    · intro x hx y hy
      rcases List.mem_cons.mp hy with rfl | hy
      · exact a x hx
      · exact hr.2.2 x hx y hy
theorem put_tab {z1 z2 : List (Row K)} {t : SetTable} (T : Tab hf (z1 ++ z2) t) {e : Row K} (hris : Ris (z1 ++ e :: z2)) (hle : e.1 ≤ t.mask) (hm : (z1 ++ z2).length + 1 ≤ t.mask) {m : Nat} (hj : (PP t.mask (hf e.2.1) m).j = e.1) (hoc : ∀ m' < m, Occ (z1 ++ z2) (PP t.mask (hf e.2.1) m').j) :
    Tab hf (z1 ++ e :: z2) { t with place := plc (z1 ++ e :: z2) } := by
  have up : ∀ x, x ∈ z1 ++ z2 → x ∈ z1 ++ e :: z2 := fun x hx => by
    rcases List.mem_append.mp hx with h | h
    · exact List.mem_append_left _ h
    · exact List.mem_append_right _ (List.mem_cons_of_mem _ h)
  have upO : ∀ j, Occ (z1 ++ z2) j → Occ (z1 ++ e :: z2) j := fun j ⟨x, hx, q⟩ => ⟨x, up x hx, q⟩
  have inv : ∀ x, x ∈ z1 ++ e :: z2 → x = e ∨ x ∈ z1 ++ z2 := fun x hx => by
    rcases List.mem_append.mp hx with h | h
    · exact .inr (List.mem_append_left _ h)
    · rcases List.mem_cons.mp h with h | h
      · exact .inl h
      · exact .inr (List.mem_append_right _ h)
  refine ⟨rfl, T.dum, T.ok, hris, fun x hx => ?_, by simp at hm ⊢; omega, fun x hx => ?_⟩
  · rcases inv x hx with rfl | h
    · exact hle
    · exact T.le x h
  · rcases inv x hx with rfl | h
    · exact ⟨m, hj, fun m' h' => upO _ (hoc m' h')⟩
    · obtain ⟨m, a, b⟩ := T.rch x h
      exact ⟨m, a, fun m' h' => upO _ (b m' h')⟩
theorem j_le (mask : Nat) (h : Int) : ∀ m, (PP mask h m).j + (PP mask h m).more ≤ mask := by
  have key : ∀ q : Nat × Nat, q.1 < mask + 1 → (rs mask q).j + (rs mask q).more ≤ mask := fun q hq => by
    show q.1 + (runEnd mask q.1 - q.1) ≤ mask
    unfold runEnd
    split <;> omega
  intro m
  induction m with
  | zero => exact key _ (RR_lt mask h 0)
  | succ m ih =>
    show (adv mask _).j + (adv mask _).more ≤ mask
    unfold adv
    split
    · show (PP mask h m).j + 1 + ((PP mask h m).more - 1) ≤ mask; omega
    · exact key (leap mask (PP mask h m).i (PP mask h m).perturb) (Nat.mod_lt _ (by omega))
end ST

/-! Laying a table anew. -/
namespace ST
open PySem PySem.SetTable
def ocu (owner : Array (Option Nat)) (j : Nat) : Prop := (owner.getD j (some 0)).isNone = false
theorem free_ok {mask : Nat} {h : Int} {owner : Array (Option Nat)} : ∀ (f k m : Nat), PP mask h m = rs mask (RR mask h k) → (∀ m' < m, ocu owner (PP mask h m').j) → (∃ k', k ≤ k' ∧ k' < k + f ∧ ¬ ocu owner (RR mask h k').1) →
    ∃ m', layClean.free mask owner f (RR mask h k).1 (RR mask h k).2 = some (PP mask h m').j ∧ ¬ ocu owner (PP mask h m').j ∧ ∀ m'' < m', ocu owner (PP mask h m'').j := by
  intro f
  induction f with
  | zero => rintro k m _ _ ⟨k', a, b, _⟩; omega
  | succ f ih =>
    rintro k m e hm ⟨k', a, b, c⟩
    unfold layClean.free
    have hle : (RR mask h k).1 ≤ runEnd mask (RR mask h k).1 := by unfold runEnd; split <;> omega
    cases hfd : (List.range (runEnd mask (RR mask h k).1 + 1 - (RR mask h k).1)).find? fun x => (owner.getD ((RR mask h k).1 + x) (some 0)).isNone with
    | some x =>
      rw [List.find?_range_eq_some] at hfd
      obtain ⟨h1, h2, h3⟩ := hfd
      rw [List.mem_range] at h2
      have hj : ∀ y, y ≤ x → (PP mask h (m + y)).j = (RR mask h k).1 + y := fun y hy => by rw [PP_run e y (by omega)]
      dsimp only
      refine ⟨m + x, by rw [hj x (Nat.le_refl _)], ?_, fun y hy => ?_⟩
      · rw [hj x (Nat.le_refl _)]
        unfold ocu
        rw [h1]
        exact Bool.noConfusion
      · by_cases hy2 : y < m
        · exact hm y hy2
        · have := h3 (y - m) (by omega)
          have ej := hj (y - m) (by omega)
          rw [show m + (y - m) = y by omega] at ej
          rw [ej]
          unfold ocu
          simpa using this
    | none =>
      dsimp only
      rw [List.find?_range_eq_none] at hfd
      have hj : ∀ y, y ≤ runEnd mask (RR mask h k).1 - (RR mask h k).1 → (PP mask h (m + y)).j = (RR mask h k).1 + y := fun y hy => by rw [PP_run e y hy]
      have hocc : ∀ y, y ≤ runEnd mask (RR mask h k).1 - (RR mask h k).1 → ocu owner (PP mask h (m + y)).j := fun y hy => by
        rw [hj y hy]
        have := hfd y (by omega)
        unfold ocu
        simpa using this
      refine ih (k + 1) (m + (runEnd mask (RR mask h k).1 - (RR mask h k).1) + 1) (PP_next e) (fun y hy => ?_) ⟨k', ?_, by omega, c⟩
      · by_cases hy2 : y < m
        · exact hm y hy2
        · have := hocc (y - m) (by omega)
          rw [show m + (y - m) = y by omega] at this
          exact this
      · have : k' ≠ k := by
          rintro rfl
          have := hocc 0 (Nat.zero_le _)
          rw [hj 0 (Nat.zero_le _), Nat.add_zero] at this
          exact c this
        omega
/-- after some hashes: who owns which place -/
structure Lay (mask : Nat) (ws : List (Nat × Int)) (owner : Array (Option Nat)) : Prop where
  size : owner.size = mask + 1
  own : ∀ j k, owner.getD j none = some k ↔ ∃ h, ws[k]? = some (j, h)
  rch : ∀ w ∈ ws, ∃ m, (PP mask w.2 m).j = w.1 ∧ ∀ m' < m, ocu owner (PP mask w.2 m').j
theorem ocu_iff {mask : Nat} {ws : List (Nat × Int)} {owner : Array (Option Nat)} (L : Lay mask ws owner) {j : Nat} (hj : j ≤ mask) : ocu owner j ↔ ∃ k, owner.getD j none = some k := by
  unfold ocu
  have hlt : j < owner.size := by rw [L.size]; omega
  rw [Array.getD_eq_getD_getElem?, Array.getD_eq_getD_getElem?, Array.getElem?_eq_getElem hlt]
  cases owner[j] with
  | none => simp
  | some k => simp
theorem lay_nodup {mask : Nat} {ws : List (Nat × Int)} {owner : Array (Option Nat)} (L : Lay mask ws owner) : (ws.map (·.1)).Nodup := by
  unfold List.Nodup
  rw [List.pairwise_iff_getElem]
  intro i j hi hj hij he
  rw [List.length_map] at hi hj
  rw [List.getElem_map, List.getElem_map] at he
  have a := (L.own ws[i].1 i).mpr ⟨ws[i].2, by rw [List.getElem?_eq_getElem hi]⟩
  have b := (L.own ws[j].1 j).mpr ⟨ws[j].2, by rw [List.getElem?_eq_getElem hj]⟩
  rw [he, b] at a
  injection a with a
  omega
theorem lay_free {mask : Nat} {ws : List (Nat × Int)} {owner : Array (Option Nat)} (L : Lay mask ws owner) (hl : ws.length ≤ mask) : ∃ j, j ≤ mask ∧ ¬ ocu owner j := by
  -- else every place has an owner below the length
  refine Classical.byContradiction fun hno => ?_
  have all : ∀ j ≤ mask, ocu owner j := fun j hj => Classical.byContradiction fun c => hno ⟨j, hj, c⟩
  have hsub : ∀ j ∈ List.range (mask + 1), j ∈ ws.map (·.1) := fun j hj => by
    have hj : j ≤ mask := by have := List.mem_range.mp hj; omega
    obtain ⟨k, hk⟩ := (ocu_iff L hj).mp (all j hj)
    obtain ⟨h, hw⟩ := (L.own j k).mp hk
    exact List.mem_map.mpr ⟨_, List.mem_of_getElem? hw, rfl⟩
  have : (List.range (mask + 1)).length ≤ (ws.map (·.1)).length := by
    have h1 : ((ws.map (·.1)).filter (· ≤ mask)).Perm (List.range (mask + 1)) := by
      rw [List.perm_ext_iff_of_nodup ((lay_nodup L).filter _) List.nodup_range]
      intro a
      rw [List.mem_filter, List.mem_range]
      constructor
      · rintro ⟨_, h⟩; have := of_decide_eq_true h; omega
      · intro h; exact ⟨hsub a (List.mem_range.mpr h), decide_eq_true (by omega)⟩
    rw [← h1.length_eq]
    exact List.length_filter_le _ _
  rw [List.length_range, List.length_map] at this
  omega
def stepL (mask : Nat) (acc : Option (Array (Option Nat) × Nat)) (h : Int) : Option (Array (Option Nat) × Nat) := do
  let (owner, k) ← acc
  let j ← layClean.free mask owner (turns mask) (bits h % (mask + 1)) (bits h)
  pure (owner.setIfInBounds j (some k), k + 1)
theorem step_ok {mask : Nat} (ok : okm mask) {ws : List (Nat × Int)} {owner : Array (Option Nat)} (L : Lay mask ws owner) (hl : ws.length ≤ mask) (h : Int) :
    ∃ j owner', stepL mask (some (owner, ws.length)) h = some (owner', ws.length + 1) ∧ j ≤ mask ∧ Lay mask (ws ++ [(j, h)]) owner' := by
  obtain ⟨j0, hj0, hf0⟩ := lay_free L hl
  obtain ⟨k0, hk0, e0⟩ := RR_cover ok h hj0
  obtain ⟨m, e1, e2, e3⟩ := free_ok (mask := mask) (h := h) (owner := owner) (turns mask) 0 0 rfl (fun _ h => by omega) ⟨k0, Nat.zero_le _, by omega, by rw [e0]; exact hf0⟩
  have hjm : (PP mask h m).j ≤ mask := by have := j_le mask h m; omega
  have hlt : (PP mask h m).j < owner.size := by rw [L.size]; omega
  have hget : ∀ j', (owner.setIfInBounds (PP mask h m).j (some ws.length)).getD j' none = if j' = (PP mask h m).j then some ws.length else owner.getD j' none := fun j' => by
    rw [Array.getD_eq_getD_getElem?, Array.getElem?_setIfInBounds]
    by_cases c : (PP mask h m).j = j'
    · rw [if_pos c, if_pos hlt, if_pos c.symm]; rfl
    · rw [if_neg c, if_neg (fun x => c x.symm), Array.getD_eq_getD_getElem?]
  have hup : ∀ j', ocu owner j' → ocu (owner.setIfInBounds (PP mask h m).j (some ws.length)) j' := fun j' hj' => by
    unfold ocu at hj' ⊢
    rw [Array.getD_eq_getD_getElem?, Array.getElem?_setIfInBounds]
    by_cases c : (PP mask h m).j = j'
    · rw [if_pos c, if_pos hlt]; rfl
    · rw [if_neg c, ← Array.getD_eq_getD_getElem?]; exact hj'
  refine ⟨(PP mask h m).j, owner.setIfInBounds (PP mask h m).j (some ws.length), ?_, hjm, ?_, fun j' k => ?_, fun w hw => ?_⟩
  · have e1' : layClean.free mask owner (turns mask) (bits h % (mask + 1)) (bits h) = some (PP mask h m).j := e1
    unfold stepL
    show (layClean.free mask owner (turns mask) (bits h % (mask + 1)) (bits h) >>= _) = _
    rw [e1']
    rfl
  · rw [Array.size_setIfInBounds]; exact L.size
  · rw [hget]
    by_cases c : j' = (PP mask h m).j
    · rw [if_pos c]
      constructor
      · intro x
        injection x with x
        subst x
        exact ⟨h, by rw [List.getElem?_append_right (Nat.le_refl _), Nat.sub_self, c]; rfl⟩
      · rintro ⟨h', x⟩
        by_cases hk : k < ws.length
        · rw [List.getElem?_append_left hk] at x
          have := (L.own j' k).mpr ⟨h', x⟩
          exact absurd ((ocu_iff L (by omega)).mpr ⟨k, this⟩) (by rw [c]; exact e2)
        · by_cases hk2 : k = ws.length
          · rw [hk2]
          · rw [List.getElem?_eq_none (by simp; omega)] at x
            exact nomatch x
    · rw [if_neg c, L.own]
      constructor
      · rintro ⟨h', x⟩
        have : k < ws.length := (List.getElem?_eq_some_iff.mp x).1
        exact ⟨h', by rw [List.getElem?_append_left this]; exact x⟩
      · rintro ⟨h', x⟩
        by_cases hk : k < ws.length
        · rw [List.getElem?_append_left hk] at x; exact ⟨h', x⟩
        · by_cases hk2 : k = ws.length
          · rw [hk2, List.getElem?_append_right (Nat.le_refl _), Nat.sub_self] at x
            simp only [List.getElem?_cons_zero, Option.some.injEq, Prod.mk.injEq] at x
            exact absurd x.1.symm c
          · rw [List.getElem?_eq_none (by simp; omega)] at x
            exact nomatch x
  · rcases List.mem_append.mp hw with hw | hw
    · obtain ⟨m', a, b⟩ := L.rch w hw
      exact ⟨m', a, fun x hx => hup _ (b x hx)⟩
    · rw [List.mem_singleton.mp hw]
      exact ⟨m, rfl, fun x hx => hup _ (e3 x hx)⟩
theorem fold_ok {mask : Nat} (ok : okm mask) : ∀ (hs : List Int) (ws : List (Nat × Int)) (owner : Array (Option Nat)), Lay mask ws owner → ws.length + hs.length ≤ mask + 1 → (∀ w ∈ ws, w.1 ≤ mask) →
    ∃ ws' owner', hs.foldl (stepL mask) (some (owner, ws.length)) = some (owner', ws'.length) ∧ Lay mask ws' owner' ∧ ws'.map (·.2) = ws.map (·.2) ++ hs ∧ ∀ w ∈ ws', w.1 ≤ mask := by
  intro hs
  induction hs with
  | nil => intro ws owner L _ hw; exact ⟨ws, owner, rfl, L, by simp, hw⟩
  | cons h hs ih =>
    intro ws owner L hl hw
    simp only [List.length_cons] at hl
    obtain ⟨j, owner', e, hj, L'⟩ := step_ok ok L (by omega) h
    rw [List.foldl_cons, e]
    have := ih (ws ++ [(j, h)]) owner' L' (by simp; omega) (fun w hx => by
      rcases List.mem_append.mp hx with hx | hx
      · exact hw w hx
      · rw [List.mem_singleton.mp hx]; exact hj)
    obtain ⟨ws', owner'', a, b, c, d⟩ := this
    refine ⟨ws', owner'', by simpa using a, b, by rw [c]; simp, d⟩
theorem clean_ok {mask : Nat} (ok : okm mask) (hs : Array Int) (hl : hs.size ≤ mask + 1) : ∃ ws owner, layClean mask hs = some owner ∧ Lay mask ws owner ∧ ws.map (·.2) = hs.toList ∧ ∀ w ∈ ws, w.1 ≤ mask := by
  have L0 : Lay mask [] (Array.replicate (mask + 1) none) := ⟨by simp, fun j k => by
    rw [Array.getD_eq_getD_getElem?, Array.getElem?_replicate]
    constructor
    · intro h; split at h <;> exact nomatch h
    · rintro ⟨h, x⟩; simp at x, by simp⟩
  obtain ⟨ws, owner, e, L, h1, h2⟩ := fold_ok ok hs.toList [] _ L0 (by simpa using hl) (by simp)
  refine ⟨ws, owner, ?_, L, by simpa using h1, h2⟩
  unfold layClean
  rw [← Array.foldl_toList]
  have : ∀ acc : Option (Array (Option Nat) × Nat), ∀ l : List Int, l.foldl (fun acc h => do
    let (owner, k) ← acc
    let j ← layClean.free mask owner (turns mask) (bits h % (mask + 1)) (bits h)
    pure (owner.setIfInBounds j (some k), k + 1)) acc = l.foldl (stepL mask) acc := fun acc l => rfl
  rw [this]
  have e' : hs.toList.foldl (stepL mask) (some (Array.replicate (mask + 1) none, 0)) = some (owner, ws.length) := e
  rw [e']
  rfl
theorem fm_congr {α β : Type} {f g : α → Option β} : ∀ {l : List α}, (∀ x ∈ l, f x = g x) → l.filterMap f = l.filterMap g
  | [], _ => rfl
  | x :: l, h => by
    rw [List.filterMap_cons, List.filterMap_cons, h x List.mem_cons_self, fm_congr fun y hy => h y (List.mem_cons_of_mem _ hy)]
theorem fm_range {α : Type} : ∀ (l : List α), (List.range l.length).filterMap (fun k => l[k]?) = l
  | [] => rfl
  | x :: l => by
    rw [List.length_cons, List.range_succ_eq_map, List.filterMap_cons, List.filterMap_map]
    show x :: (List.range l.length).filterMap (fun k => l[k]?) = _
    rw [fm_range l]
variable {K : Type} {hf : K → Int}
def pick (zs : List (Row K)) (q : Nat × Nat) : Option (Row K) := zs[q.2]?.map fun e => (q.1, e.2)
theorem laid_ok {mask : Nat} (ok : okm mask) (zs : List (Row K)) (hl : zs.length ≤ mask) (fi mv : Nat) (led pl : Bool) :
    ∃ zs' order, laid mask fi mv led pl ((ent hf zs).map (·.1)) = some ({ mask, place := plc zs', dummies := #[], finger := fi, led, moves := mv, plain := pl }, order) ∧ order.filterMap ((ent hf zs)[·]?) = ent hf zs' ∧
      (zs'.map (·.2)).Perm (zs.map (·.2)) ∧ Tab hf zs' { mask, place := plc zs', dummies := #[], finger := fi, led, moves := mv, plain := pl } ∧ order.toList.Perm (List.range zs.length) := by
  obtain ⟨ws, owner, e, L, h1, h2⟩ := clean_ok ok ((ent hf zs).map (·.1)) (by rw [Array.size_map, ent_size]; omega)
  have hwl : ws.length = zs.length := by
    have := congrArg List.length h1
    simpa [ent] using this
  have hwh : ∀ (k : Nat) (j : Nat) (h : Int), ws[k]? = some (j, h) → ∃ z, zs[k]? = some z ∧ h = hf z.2.1 := fun k j h x => by
    have hk : k < zs.length := by rw [← hwl]; exact (List.getElem?_eq_some_iff.mp x).1
    refine ⟨zs[k], List.getElem?_eq_getElem hk, ?_⟩
    have := congrArg (fun l => l[k]?) h1
    simp only [List.getElem?_map, x, Array.toList_map, ent, List.toList_toArray, List.getElem?_eq_getElem hk, Option.map_some, Option.some.injEq] at this
    exact this
  let live := (List.range (mask + 1)).filterMap fun j => (owner.getD j none).map (j, ·)
  have mem_live : ∀ q : Nat × Nat, q ∈ live ↔ owner.getD q.1 none = some q.2 := fun q => by
    show q ∈ (List.range (mask + 1)).filterMap _ ↔ _
    rw [List.mem_filterMap]
    constructor
    · rintro ⟨j, _, x⟩
      cases hc : owner.getD j none with
      | none => rw [hc] at x; exact nomatch x
      | some k => rw [hc] at x; injection x with x; subst x; exact hc
    · intro x
      refine ⟨q.1, ?_, by rw [x]; rfl⟩
      rw [List.mem_range]
      obtain ⟨h, y⟩ := (L.own q.1 q.2).mp x
      have := h2 _ (List.mem_of_getElem? y)
      simp only at this
      omega
  have live_ris : live.Pairwise (fun a b => a.1 < b.1) := by
    show ((List.range (mask + 1)).filterMap _).Pairwise _
    rw [List.pairwise_filterMap]
    refine List.Pairwise.imp ?_ (List.pairwise_lt_range (n := mask + 1))
    intro a b hab q hq r hr
    cases hc : owner.getD a none with
    | none => rw [hc] at hq; exact nomatch hq
    | some k =>
      cases hd : owner.getD b none with
      | none => rw [hd] at hr; exact nomatch hr
      | some k' =>
        rw [hc] at hq; rw [hd] at hr
        injection hq with hq; injection hr with hr
        subst hq; subst hr
        exact hab
  have kk : ∀ q ∈ live, ∃ z, zs[q.2]? = some z ∧ ∃ m, (PP mask (hf z.2.1) m).j = q.1 ∧ ∀ m' < m, ocu owner (PP mask (hf z.2.1) m').j := fun q hq => by
    obtain ⟨h, y⟩ := (L.own q.1 q.2).mp ((mem_live q).mp hq)
    obtain ⟨z, hz, rfl⟩ := hwh _ _ _ y
    obtain ⟨m, a, b⟩ := L.rch _ (List.mem_of_getElem? y)
    exact ⟨z, hz, m, a, b⟩
  have kperm : (live.map (·.2)).Perm (List.range zs.length) := by
    rw [List.perm_ext_iff_of_nodup ?_ List.nodup_range]
    · intro k
      rw [List.mem_map, List.mem_range]
      constructor
      · rintro ⟨q, hq, rfl⟩
        obtain ⟨z, hz, _⟩ := kk q hq
        exact (List.getElem?_eq_some_iff.mp hz).1
      · intro hk
        have hk' : k < ws.length := by omega
        exact ⟨(ws[k].1, k), (mem_live _).mpr ((L.own _ _).mpr ⟨ws[k].2, List.getElem?_eq_getElem hk'⟩), rfl⟩
    · unfold List.Nodup
      rw [List.pairwise_map]
      refine List.Pairwise.imp_of_mem ?_ live_ris
      intro a b ha hb hab he
      obtain ⟨h, y⟩ := (L.own a.1 a.2).mp ((mem_live a).mp ha)
      obtain ⟨h', y'⟩ := (L.own b.1 b.2).mp ((mem_live b).mp hb)
      rw [he, y'] at y
      simp only [Option.some.injEq, Prod.mk.injEq] at y
      omega
  let zs' := live.filterMap (pick zs)
  have fm : ∀ {β : Type} (g : Row K → β) (l : List (Nat × Nat)), (∀ q ∈ l, ∃ z, zs[q.2]? = some z) → (l.filterMap (pick zs)).map g = l.filterMap (fun q => zs[q.2]?.map fun e => g (q.1, e.2)) := fun g l _ => by
    rw [List.map_filterMap]
    refine congrArg (fun f => List.filterMap f l) (funext fun q => ?_)
    unfold pick
    cases zs[q.2]? <;> rfl
  have hpl : plc zs' = (live.map (·.1)).toArray := by
    unfold plc
    rw [show zs'.map (·.1) = _ from fm (·.1) live fun q hq => let ⟨z, hz, _⟩ := kk q hq; ⟨z, hz⟩]
    congr 1
    rw [← List.filterMap_eq_map]
    refine fm_congr fun q hq => ?_
    obtain ⟨z, hz, _⟩ := kk q hq
    rw [hz]
    rfl
  have hpv : zs'.map (·.2) = (live.map (·.2)).filterMap (fun k => zs[k]?.map (·.2)) := by
    rw [show zs'.map (·.2) = _ from fm (·.2) live fun q hq => let ⟨z, hz, _⟩ := kk q hq; ⟨z, hz⟩, List.filterMap_map]
    rfl
  have hperm : (zs'.map (·.2)).Perm (zs.map (·.2)) := by
    rw [hpv]
    refine (kperm.filterMap _).trans ?_
    have e2 : (List.range zs.length).filterMap (fun k => zs[k]?.map (fun e : Row K => e.2)) = zs.map (fun e : Row K => e.2) := by
      have := fm_range (zs.map (fun e : Row K => e.2))
      rw [List.length_map] at this
      refine (fm_congr fun k _ => ?_).trans this
      rw [List.getElem?_map]
    rw [e2]
  have hent : ((live.map (·.2)).toArray).filterMap ((ent hf zs)[·]?) = ent hf zs' := by
    apply Array.toList_inj.mp
    rw [Array.toList_filterMap]
    show ((live.map (·.2))).filterMap _ = zs'.map fun e => (hf e.2.1, e.2.2)
    rw [show (zs'.map fun e => (hf e.2.1, e.2.2)) = (zs'.map (·.2)).map (fun e => (hf e.1, e.2)) by rw [List.map_map]; rfl, hpv]
    generalize live.map (·.2) = lk
    rw [List.map_filterMap]
    refine fm_congr fun k _ => ?_
    rw [ent_get]
    cases zs[k]? <;> rfl
  have hlen : zs'.length = zs.length := by have := hperm.length_eq; simpa using this
  have mem_zs' : ∀ x ∈ zs', ∃ q ∈ live, ∃ z, zs[q.2]? = some z ∧ x = (q.1, z.2) := fun x hx => by
    obtain ⟨q, hq, y⟩ := List.mem_filterMap.mp hx
    obtain ⟨z, hz, _⟩ := kk q hq
    unfold pick at y
    rw [hz] at y
    injection y with y
    exact ⟨q, hq, z, hz, y.symm⟩
  have occ' : ∀ j ≤ mask, ocu owner j → Occ zs' j := fun j hj ho => by
    obtain ⟨k, hk⟩ := (ocu_iff L hj).mp ho
    have hq := (mem_live (j, k)).mpr hk
    obtain ⟨z, hz, _⟩ := kk _ hq
    exact ⟨(j, z.2), List.mem_filterMap.mpr ⟨(j, k), hq, by unfold pick; rw [show zs[(j, k).2]? = some z from hz]; rfl⟩, rfl⟩
  refine ⟨zs', (live.map (·.2)).toArray, ?_, hent, hperm, ⟨rfl, rfl, ok, ?_, fun x hx => ?_, by rw [hlen]; exact hl, fun x hx => ?_⟩, kperm⟩
  · unfold laid
    rw [e]
    show some (_, _) = _
    rw [hpl]
  · show (live.filterMap (pick zs)).Pairwise _
    rw [List.pairwise_filterMap]
    refine List.Pairwise.imp ?_ live_ris
    intro a b hab q hq r hr
    unfold pick at hq hr
    cases hc : zs[a.2]? with
    | none => rw [hc] at hq; exact nomatch hq
    | some z =>
      cases hd : zs[b.2]? with
      | none => rw [hd] at hr; exact nomatch hr
      | some z' =>
        rw [hc] at hq; rw [hd] at hr
        injection hq with hq; injection hr with hr
        subst hq; subst hr
        exact hab
  · obtain ⟨q, hq, z, hz, rfl⟩ := mem_zs' x hx
    obtain ⟨h, y⟩ := (L.own q.1 q.2).mp ((mem_live q).mp hq)
    exact h2 _ (List.mem_of_getElem? y)
  · obtain ⟨q, hq, z, hz, rfl⟩ := mem_zs' x hx
    obtain ⟨z', hz', m, a, b⟩ := kk q hq
    rw [hz] at hz'
    injection hz' with hz'
    subst hz'
    exact ⟨m, a, fun m' hm' => occ' _ (Nat.le_trans (Nat.le_add_right _ _) (j_le mask (hf z.2.1) m')) (b m' hm')⟩
end ST

/-! Searching a set's table for a tuple of ints. -/
namespace ST
open PySem PySem.SetTable PySem.Spec PyProof.Rows
variable {prog : Program} {w : World} {A : Around} {E : Value → Shared → Prop} {s : Shared}
abbrev HF (prog : Program) (w : World) : List Int → Int := tupleKeyHash (intKind prog w)
def BT (w : World) : Bool := w.params.followText "set-order"
def TK (prog : Program) (w : World) (h : Heap) (ks : List Int) (v : Value) : Prop := ∃ a, v = .ref a ∧ IsTupleKey (intKind prog w) h ks a
theorem TK.inj {h : Heap} {k k' : List Int} {v : Value} (x : TK prog w h k v) (y : TK prog w h k' v) : k = k' := by
  obtain ⟨a, rfl, x⟩ := x
  obtain ⟨b, e, y⟩ := y
  injection e with e
  subst e
  exact x.inj y
theorem wp_byText {Q : Bool → Shared → Prop} (h : Q (BT w) s) : wpAny (model prog w) A setsByText Q E s :=
  by delta setsByText; exact wpAny_bind (wpAny_askSetting (wpAny_pure h))
theorem Tab.fits {K : Type} {hf : K → Int} {zs : List (Row K)} {t : SetTable} (T : Tab hf zs t) : t.fits (ent hf zs).size = true := by
  unfold SetTable.fits SetTable.fill
  rw [ent_size, T.place, T.dum, plc_size]
  have := T.room
  simpa using this
/-- a set of tuples of ints -/
structure SAt (prog : Program) (w : World) (h : Heap) (a : Addr) (zs : List (Row (List Int))) (o : Obj) (ep : Nat) (t : SetTable) : Prop where
  get : h.get? a = some o
  cls : o.cls = .type "set"
  data : o.data = .set (ent (HF prog w) zs) ep t
  tab : Tab (HF prog w) zs t
  plain : t.plain = true
  led : t.led = !BT w
  keys : ∀ e ∈ zs, TK prog w h e.2.1 e.2.2
  nd : (zs.map fun e => e.2.1).Nodup
section
variable {a : Addr} {zs : List (Row (List Int))} {o : Obj} {ep : Nat} {t : SetTable}
end
end ST

/-! Adding a tuple of ints to a set. -/
namespace ST
open PySem PySem.SetTable PySem.Spec PyProof.Rows
variable {prog : Program} {w : World} {A : Around} {E : Value → Shared → Prop} {s : Shared}
theorem TK.keep {h h' : Heap} {ks : List Int} {v : Value} {a : Addr} {o : Obj} (x : TK prog w h ks v) (ho : h.get? a = some o) (hc : o.cls = .type "set") (hs : Heap.SameBut a h h') : TK prog w h' ks v := by
  obtain ⟨b, rfl, o', items, n, h1, h2, h3, h4⟩ := x
  refine ⟨b, rfl, o', items, n, ?_, h2, h3, h4⟩
  rw [hs.2 b ?_]
  · exact h1
  · rintro rfl
    rw [ho] at h1
    injection h1 with h1
    subst h1
    rw [hc] at h2
    injection h2 with h2
    exact absurd h2 (by decide)
theorem TK.grow {h h' : Heap} {ks : List Int} {v : Value} (x : TK prog w h ks v) (hk : ∀ b o, h.get? b = some o → o.cls = .type "tuple" → h'.get? b = some o) : TK prog w h' ks v := by
  obtain ⟨b, rfl, o', items, n, h1, h2, h3, h4⟩ := x
  exact ⟨b, rfl, o', items, n, hk b o' h1 h2, h2, h3, h4⟩
theorem relay_size {mask n : Nat} (ok : okm mask) (h1 : n * 5 < mask * 3) (h2 : (n + 1) * 5 ≥ mask * 3) (h3 : n < 306) :
    okm (sizeAbove (grown (n + 1)) - 1) ∧ sizeAbove (grown (n + 1)) ≤ sizeLine ∧ (n + 1) * 5 < (sizeAbove (grown (n + 1)) - 1) * 3 ∧ n + 1 ≤ sizeAbove (grown (n + 1)) - 1 := by
  have hz : (1024 : Nat) ≤ sizeLine := by rw [sizeLine_eq]; decide
  simp only [okm, List.mem_cons, List.not_mem_nil, or_false] at ok
  have key : n + 1 = 5 ∨ n + 1 = 19 ∨ n + 1 = 77 := by
    rcases ok with h | h | h | h <;> rw [h] at h1 h2 <;> omega
  have e5 : sizeAbove (grown 5) = 32 := by decide
  have e19 : sizeAbove (grown 19) = 128 := by decide
  have e77 : sizeAbove (grown 77) = 512 := by decide
  rcases key with h | h | h
  · rw [h, e5]; exact ⟨by unfold okm; decide, by omega, by omega, by omega⟩
  · rw [h, e19]; exact ⟨by unfold okm; decide, by omega, by omega, by omega⟩
  · rw [h, e77]; exact ⟨by unfold okm; decide, by omega, by omega, by omega⟩
section
variable {a : Addr} {zs : List (Row (List Int))} {o : Obj} {ep : Nat} {t : SetTable}
end
end ST

/-! set() of a list of tuples of ints. -/
namespace ST
open PySem PySem.SetTable PySem.Spec PyProof.Rows
variable {prog : Program} {w : World} {A : Around} {E : Value → Shared → Prop} {s : Shared}
abbrev newSetO (w : World) : Obj := { cls := .type "set", dict := none, data := .set #[] 0 (.fresh 0 0 (!BT w)) }
/-- what is in after so many items -/
def Upto (ks : List (List Int)) (vs : List Value) (i : Nat) (zs : List (Row (List Int))) : Prop :=
  (∀ e ∈ zs, ∃ j, j < i ∧ ks[j]? = some e.2.1 ∧ vs[j]? = some e.2.2) ∧ ∀ j, j < i → ∃ e ∈ zs, ks[j]? = some e.2.1
theorem Upto.step {ks : List (List Int)} {vs : List Value} {i : Nat} {zs zs' : List (Row (List Int))} (U : Upto ks vs i zs) {k : List Int} {x : Value} (hk : ks[i]? = some k) (hx : vs[i]? = some x)
    (h : (∃ e ∈ zs, e.2.1 = k) ∧ zs' = zs ∨ (zs'.map (·.2)).Perm ((k, x) :: zs.map (·.2))) : Upto ks vs (i + 1) zs' := by
  rcases h with ⟨⟨e, he, hek⟩, rfl⟩ | hp
  · refine ⟨fun e he => ?_, fun j hj => ?_⟩
    · obtain ⟨j, a, b⟩ := U.1 e he
      exact ⟨j, by omega, b⟩
    · by_cases c : j < i
      · exact U.2 j c
      · exact ⟨e, he, by rw [show j = i by omega, hk, hek]⟩
  · have up : ∀ e ∈ zs, ∃ e' ∈ zs', e'.2 = e.2 := fun e he => by
      have : e.2 ∈ zs'.map (·.2) := hp.mem_iff.mpr (List.mem_cons_of_mem _ (List.mem_map.mpr ⟨e, he, rfl⟩))
      obtain ⟨e', h1, h2⟩ := List.mem_map.mp this
      exact ⟨e', h1, h2⟩
    refine ⟨fun e he => ?_, fun j hj => ?_⟩
    · have : e.2 ∈ (k, x) :: zs.map (·.2) := hp.mem_iff.mp (List.mem_map.mpr ⟨e, he, rfl⟩)
      rcases List.mem_cons.mp this with c | c
      · exact ⟨i, by omega, by rw [c]; exact hk, by rw [c]; exact hx⟩
      · obtain ⟨e', h1, h2⟩ := List.mem_map.mp c
        obtain ⟨j, a, b⟩ := U.1 e' h1
        exact ⟨j, by omega, by rw [← h2]; exact b⟩
    · by_cases c : j < i
      · obtain ⟨e, he, hj'⟩ := U.2 j c
        obtain ⟨e', h1, h2⟩ := up e he
        exact ⟨e', h1, by rw [h2]; exact hj'⟩
      · have : (k, x) ∈ zs'.map (·.2) := hp.mem_iff.mpr List.mem_cons_self
        obtain ⟨e', h1, h2⟩ := List.mem_map.mp this
        exact ⟨e', h1, by rw [h2, show j = i by omega, hk]⟩
section
variable {R : Result → Shared → Prop} {I : Addr} {fp wr : List Addr} {G : Array GenState → Array GenState → Prop} {n : Nat} {P : Nat → Value → Prop} {St : Nat → Shared → Prop}
theorem SAt.move {h h' : Heap} {a : Addr} {zs : List (Row (List Int))} {o : Obj} {ep : Nat} {t : SetTable} (S : SAt prog w h a zs o ep t) (h1 : h'.get? a = some o) (h2 : ∀ e ∈ zs, TK prog w h' e.2.1 e.2.2) : SAt prog w h' a zs o ep t :=
  ⟨h1, S.cls, S.data, S.tab, S.plain, S.led, h2, S.nd⟩
end
/-- set.__new__ with what it is led by -/
theorem new_set (x : Value) {Q : Value → Shared → Prop} (h : Q (.ref s.heap.objs.size) { s with heap := s.heap.push (newSetO w) }) :
    codeAny (model prog w) A (.call (.builtin "set.__new__") ⟨[.type "set", x], []⟩) (wants Q E) s := by
  refine codeAny_of_tree ?_
  show wpAny _ A.in1 (checkBuiltinCall "set.__new__" ⟨[.type "set", x], []⟩ >>= fun _ => again (.builtin "set.__new__" ⟨[.type "set", x], []⟩)) _ _ s
  refine wpAny_bind (wpAny_of_eq (PySem.F.newCall_set_1 x) (wpAny_pure ⟨plainId_quiet PySem.F.plain_set_new _, ?_⟩))
  refine codeAny_builtin PySem.F.entry_set_new ?_
  rw [Around.under_plainId PySem.F.plain_set_new _]
  unfold Builtin.«set.__new__» Builtin.Frozenset.newClass
  have self := sub_set_self
  cases s
  dsimp only
  wp_walk
  refine wpAny_askSetting (wpAny_pure ?_)
  dsimp only
  simp only [newObj]
  exact wpAny_bind (wpAny_alloc (wpAny_pure (wpAny_pure h)))
end ST

/-! A call of set, and walking a set. -/
namespace ST
open PySem PySem.SetTable PySem.Spec PyProof.Rows
variable {prog : Program} {w : World} {A : Around} {E : Value → Shared → Prop} {s : Shared}
end ST

/-! Walking a set. -/
namespace ST
open PySem PySem.SetTable PySem.Spec PyProof.Rows
variable {prog : Program} {w : World} {A : Around} {E : Value → Shared → Prop} {s : Shared}
theorem erase_perm {α : Type} : ∀ (l : List α) (i : Nat) (h : i < l.length), (l[i] :: l.eraseIdx i).Perm l
  | x :: l, 0, _ => .refl _
  | x :: l, i + 1, h => (List.Perm.swap _ _ _).trans ((erase_perm l i (by simpa using h)).cons x)
theorem pick_go {α : Type} (next : Nat → Nat) : ∀ (f k : Nat) (l : List α) (out : Array α), l.length ≤ f → (pickOrder.go next f k l out).toList.Perm (out.toList ++ l) := by
  intro f
  induction f with
  | zero => intro k l out h; cases l with
    | nil => simp [pickOrder.go]
    | cons x l => simp at h
  | succ f ih =>
    intro k l out h
    unfold pickOrder.go
    cases hc : l[next k % l.length]? with
    | none =>
      dsimp only
      cases l with
      | nil => simp
      | cons x l =>
        have := Nat.mod_lt (next k) (show 0 < (x :: l).length by simp)
        rw [List.getElem?_eq_getElem this] at hc
        exact nomatch hc
    | some x =>
      dsimp only
      obtain ⟨hi, ex⟩ := List.getElem?_eq_some_iff.mp hc
      refine (ih _ _ _ (by rw [List.length_eraseIdx_of_lt hi]; omega)).trans ?_
      rw [Array.toList_push, List.append_assoc]
      refine List.Perm.append_left _ ?_
      rw [← ex]
      exact erase_perm l _ hi
theorem pick_perm {α : Type} (next : Nat → Nat) (xs : Array α) : (pickOrder next xs).toList.Perm xs.toList := by
  unfold pickOrder
  refine (pick_go next _ _ _ _ (by simp)).trans ?_
  simp
/-- the order of a walk -/
def walkE (w : World) (a : Addr) (ep : Nat) (es : Array (Int × Value)) : List Value := (if BT w then pickOrder (w.params.setOrder a ep) es else es).toList.map (·.2)
theorem walk_perm {K : Type} {hf : K → Int} (w : World) (a : Addr) (ep : Nat) (zs : List (Row K)) : (walkE w a ep (ent hf zs)).Perm (zs.map (·.2.2)) := by
  unfold walkE
  have e : ((ent hf zs).toList.map (·.2)) = zs.map (·.2.2) := by unfold ent; simp
  cases BT w with
  | false => simp only [Bool.false_eq_true, if_false]; rw [e]
  | true => simp only [if_true]; rw [← e]; exact (pick_perm _ _).map _
theorem walk_len {K : Type} {hf : K → Int} (w : World) (a : Addr) (ep : Nat) (zs : List (Row K)) : (walkE w a ep (ent hf zs)).length = zs.length := by
  rw [(walk_perm w a ep zs).length_eq, List.length_map]
def SlotAt {K : Type} (zs : List (Row K)) (i sl : Nat) : Prop := (∀ e ∈ zs.take i, e.1 < sl) ∧ ∀ e ∈ zs.drop i, sl ≤ e.1
theorem SlotAt.zero {K : Type} (zs : List (Row K)) : SlotAt zs 0 0 := ⟨fun e he => by simp at he, fun _ _ => Nat.zero_le _⟩
theorem SlotAt.next {K : Type} {zs : List (Row K)} (r : Ris zs) {i : Nat} {e : Row K} (he : zs[i]? = some e) : SlotAt zs (i + 1) (e.1 + 1) := by
  obtain ⟨hi, ei⟩ := List.getElem?_eq_some_iff.mp he
  unfold Ris at r
  rw [List.pairwise_iff_getElem] at r
  refine ⟨fun x hx => ?_, fun x hx => ?_⟩
  · obtain ⟨j, hj, ej⟩ := List.getElem_of_mem hx
    rw [List.getElem_take] at ej
    rw [List.length_take] at hj
    by_cases c : j = i
    · subst c; rw [ei] at ej; rw [ej]; omega
    · have := r j i (by omega) hi (by omega)
      rw [ei, ej] at this
      omega
  · obtain ⟨j, hj, ej⟩ := List.getElem_of_mem hx
    rw [List.getElem_drop] at ej
    rw [List.length_drop] at hj
    have := r i (i + 1 + j) hi (by omega) (by omega)
    rw [ei, ej] at this
    omega
theorem SlotAt.below {K : Type} {zs : List (Row K)} {i sl : Nat} (h : SlotAt zs i sl) (hi : i ≤ zs.length) : below (plc zs) sl = i := by
  have := below_split h.1 h.2
  rw [List.take_append_drop, List.length_take, Nat.min_eq_left hi] at this
  exact this
/-- a set's table alone -/
structure SW {K : Type} (hf : K → Int) (w : World) (h : Heap) (a : Addr) (zs : List (Row K)) (o : Obj) (ep : Nat) (t : SetTable) : Prop where
  get : h.get? a = some o
  cls : o.cls = .type "set"
  data : o.data = .set (ent hf zs) ep t
  tab : Tab hf zs t
  plain : t.plain = true
  led : t.led = !BT w
theorem SAt.sw {h : Heap} {a : Addr} {zs : List (Row (List Int))} {o : Obj} {ep : Nat} {t : SetTable} (S : SAt prog w h a zs o ep t) : SW (HF prog w) w h a zs o ep t := ⟨S.get, S.cls, S.data, S.tab, S.plain, S.led⟩
theorem SW.move {K : Type} {hf : K → Int} {h h' : Heap} {a : Addr} {zs : List (Row K)} {o : Obj} {ep : Nat} {t : SetTable} (S : SW hf w h a zs o ep t) (e : ∀ o, h.get? a = some o → h'.get? a = some o) : SW hf w h' a zs o ep t := ⟨e _ S.get, S.cls, S.data, S.tab, S.plain, S.led⟩
section
variable {K : Type} {hf : K → Int} {a : Addr} {zs : List (Row K)} {o : Obj} {ep : Nat} {t : SetTable}
theorem wp_setWalk (S : SW hf w s.heap a zs o ep t) {Q : Array (Int × Value) → Shared → Prop} (h : ∀ es : Array (Int × Value), es.toList.map (·.2) = walkE w a ep (ent hf zs) → Q es s) : wpAny (model prog w) A (setWalk a) Q E s := by
  unfold setWalk
  refine wpAny_bind (wpAny_setState_of S.get S.data S.tab.fits ?_)
  dsimp only
  refine wpAny_bind (wp_byText ?_)
  have hh : Q (if BT w then pickOrder (w.params.setOrder a ep) (ent hf zs) else ent hf zs) s := h _ rfl
  cases hb : BT w with
  | true =>
    rw [hb] at hh
    exact wpAny_bind (wpAny_askSetting (wpAny_pure hh))
  | false =>
    rw [hb] at hh
    simp only [Bool.false_eq_true, if_false] at hh ⊢
    rw [if_neg (by show ¬ ((!t.plain && _) = true); rw [S.plain]; exact Bool.false_ne_true)]
    refine wpAny_bind ?_
    show wpAny _ _ (if (!t.led && _) = true then _ else _) _ _ _
    rw [S.led, hb, if_neg (by exact Bool.false_ne_true)]
    exact wpAny_pure (wpAny_pure hh)
theorem wp_setNext_item (S : SW hf w s.heap a zs o ep t) {i sl : Nat} {x : Value} (hx : (walkE w a ep (ent hf zs))[i]? = some x) (hs : BT w = true ∨ SlotAt zs i sl) {Q : Option (Value × Nat) → Shared → Prop} (h : ∀ sl', (BT w = true ∨ SlotAt zs (i + 1) sl') → Q (some (x, sl')) s) : wpAny (model prog w) A (setNext a sl i ep) Q E s := by
  unfold setNext
  refine wpAny_bind (wpAny_setState_of S.get S.data S.tab.fits ?_)
  dsimp only
  refine wpAny_bind (wp_byText ?_)
  cases hb : BT w with
  | true =>
    simp only [if_true, bne_self_eq_false, Bool.false_eq_true, if_false]
    refine wpAny_bind (wp_setWalk S fun es he => wpAny_pure ?_)
    rw [← he, List.getElem?_map] at hx
    rw [← Array.getElem?_toList]
    cases hc : es.toList[i]? with
    | none => rw [hc] at hx; exact nomatch hx
    | some e =>
      rw [hc] at hx
      injection hx with hx
      rw [← hx] at h
      exact h sl (.inl hb)
  | false =>
    have hs : SlotAt zs i sl := hs.resolve_left (by rw [hb]; exact Bool.false_ne_true)
    have hi : i < zs.length := by rw [← walk_len (hf := hf) w a ep zs]; exact (List.getElem?_eq_some_iff.mp hx).1
    simp only [Bool.false_eq_true, if_false]
    rw [if_neg (by show ¬ ((!t.plain && _) = true); rw [S.plain]; exact Bool.false_ne_true)]
    refine wpAny_bind ?_
    show wpAny _ _ (if (!t.led && _) = true then _ else _) _ _ _
    rw [S.led, hb, if_neg (by exact Bool.false_ne_true)]
    refine wpAny_pure ?_
    rw [S.tab.place, hs.below (Nat.le_of_lt hi), ent_get, plc_get, List.getElem?_eq_getElem hi]
    refine wpAny_pure ?_
    have e : x = zs[i].2.2 := by
      unfold walkE at hx
      rw [hb] at hx
      simp only [Bool.false_eq_true, if_false, List.getElem?_map, Array.getElem?_toList, ent_get, List.getElem?_eq_getElem hi, Option.map_some, Option.some.injEq] at hx
      exact hx.symm
    rw [e] at h
    exact h _ (.inr (SlotAt.next S.tab.ris (List.getElem?_eq_getElem hi)))
theorem wp_setNext_end (S : SW hf w s.heap a zs o ep t) {sl : Nat} (hs : BT w = true ∨ SlotAt zs zs.length sl) {Q : Option (Value × Nat) → Shared → Prop} (h : Q none s) : wpAny (model prog w) A (setNext a sl zs.length ep) Q E s := by
  unfold setNext
  refine wpAny_bind (wpAny_setState_of S.get S.data S.tab.fits ?_)
  dsimp only
  refine wpAny_bind (wp_byText ?_)
  cases hb : BT w with
  | true =>
    simp only [if_true, bne_self_eq_false, Bool.false_eq_true, if_false]
    refine wpAny_bind (wp_setWalk S fun es he => wpAny_pure ?_)
    have hl : es.size = zs.length := by
      have := congrArg List.length he
      rw [walk_len] at this
      simpa using this
    rw [Array.getElem?_eq_none (by omega)]
    exact h
  | false =>
    have hs : SlotAt zs zs.length sl := hs.resolve_left (by rw [hb]; exact Bool.false_ne_true)
    simp only [Bool.false_eq_true, if_false]
    rw [if_neg (by show ¬ ((!t.plain && _) = true); rw [S.plain]; exact Bool.false_ne_true)]
    refine wpAny_bind ?_
    show wpAny _ _ (if (!t.led && _) = true then _ else _) _ _ _
    rw [S.led, hb, if_neg (by exact Bool.false_ne_true)]
    refine wpAny_pure ?_
    rw [S.tab.place, hs.below (Nat.le_refl _), ent_get, List.getElem?_eq_none (Nat.le_refl _)]
    exact wpAny_pure h
end
end ST

/-! A set as a source of items. -/
namespace ST
open PySem PySem.SetTable PySem.Spec PyProof.Rows PySem.W
variable {prog : Program} {w : World} {A : Around} {E : Value → Shared → Prop} {s : Shared}
theorem slot_si_next : Slot "set_iterator" "__next__" "set_iterator.__next__" := by
  refine .of (owner := "set_iterator") (n := "__next__") ?_ (by decide +kernel) (by decide +kernel) (by decide +kernel) ?_ ?_
  · rw [typeLookup_type, builtinLookup_eq_fast]; kernel_rfl
  · first | exact .inl (by decide +kernel) | exact .inr (by decide +kernel)
  · rw [isSubtype_type]; kernel_rfl
theorem slot_si_iter : Slot "set_iterator" "__iter__" "set_iterator.__iter__" := by
  refine .of (owner := "set_iterator") (n := "__iter__") ?_ (by decide +kernel) (by decide +kernel) (by decide +kernel) ?_ ?_
  · rw [typeLookup_type, builtinLookup_eq_fast]; kernel_rfl
  · first | exact .inl (by decide +kernel) | exact .inr (by decide +kernel)
  · rw [isSubtype_type]; kernel_rfl
theorem entry_si_next : entryFor table "set_iterator.__next__" = some Builtin.«set_iterator.__next__» := by
  refine entryFor_of_tree ?_
  kernel_rfl
theorem owner_si : Manifest.owners.lookup (String.ofList ['r', 'o', 't', 'a', 'r', 'e', 't', 'i', '_', 't', 'e', 's'].reverse) = some Manifest.sig_set_iterator := by kernel_rfl
theorem args_si_next (v : Value) : argsOk "set_iterator.__next__" ⟨[v], []⟩ := by
  unfold argsOk
  rw [signature?_of (id := "set_iterator.__next__") (n := ['_', '_', 't', 'x', 'e', 'n', '_', '_']) (o := ['r', 'o', 't', 'a', 'r', 'e', 't', 'i', '_', 't', 'e', 's']) (by kernel_rfl) owner_si]
  kernel_rfl
theorem entry_s_iter : entryFor table "set.__iter__" = some Builtin.«frozenset.__iter__» := by
  refine entryFor_alias (id' := "frozenset.__iter__") ?_ rfl (by decide +kernel) ?_ <;> kernel_rfl
/-- the iterator -/
abbrev siObj (a : Addr) (sl i n ep : Nat) : Obj := { cls := .type "set_iterator", data := .fields #[.int sl 0, .int i 0, .ref a, .int n 0, .int ep 0] }
section
variable {K : Type} {hf : K → Int} {a I : Addr} {zs : List (Row K)} {o : Obj} {ep : Nat} {t : SetTable}
theorem wp_iter (S : SW hf w s.heap a zs o ep t) {Q : Value → Shared → Prop} (h : Q (.ref s.heap.objs.size) { s with heap := s.heap.push (siObj a 0 0 zs.length ep) }) : wpAny (model prog w) A (pyIter (.ref a)) Q E s := by
  have ty : s.TypeIs (.ref a) "set" := ⟨o, S.get, S.cls⟩
  refine wpAny_pyIter_slot ty PySem.F.slot_set_iter (wpAny_call_entry PySem.F.slot_set_iter ty entry_s_iter ?_ (PySem.F.args_set_iter_1 _))
  unfold Builtin.«frozenset.__iter__» Builtin.Frozenset.slot0 slotArgs Builtin.Frozenset.addrOf Builtin.Frozenset.sizeOf setDrawn setEntries setEpoch
  simp only [List.isEmpty_nil, Bool.not_true, Bool.false_eq_true, if_false, bind_assoc, List.length_nil, bne_self_eq_false, pure_bind]
  refine wpAny_bind (wpAny_setState_of S.get S.data S.tab.fits ?_)
  refine wpAny_bind (wpAny_setState_of S.get S.data S.tab.fits ?_)
  refine wpAny_bind (wp_byText ?_)
  dsimp only
  rw [if_neg (by show ¬ ((!BT w && (!t.plain && _)) = true); rw [S.plain]; cases BT w <;> exact Bool.false_ne_true)]
  refine wpAny_bind (wpAny_setState_of S.get S.data S.tab.fits ?_)
  dsimp only
  refine wpAny_bind (wpAny_newObj_type (wpAny_pure ⟨_, rfl, "set_iterator", _, ⟨_, Heap.get?_push_size _ rfl, rfl⟩, slot_si_next.lookup, ?_⟩))
  simpa [rawInt, ent_size, siObj] using h
theorem wp_next_item (S : SW hf w s.heap a zs o ep t) {i sl : Nat} {x : Value} (hI : s.heap.get? I = some (siObj a sl i zs.length ep)) (hx : (walkE w a ep (ent hf zs))[i]? = some x) (hs : BT w = true ∨ SlotAt zs i sl) {Q : Option Value → Shared → Prop}
    (h : ∀ h' sl', (BT w = true ∨ SlotAt zs (i + 1) sl') → h'.get? I = some (siObj a sl' (i + 1) zs.length ep) → Heap.SameBut I s.heap h' → Q (some x) { s with heap := h' }) : wpAny (model prog w) A (pyNext (.ref I)) Q E s := by
  have ty : s.TypeIs (.ref I) "set_iterator" := ⟨_, hI, rfl⟩
  unfold pyNext
  refine wpAny_bind (wpAny_attempt (wpAny_callSpecial?_slot (name := Str.ofString "__next__") ty slot_si_next (wpAny_call_entry slot_si_next ty entry_si_next ?_ (args_si_next _))))
  unfold Builtin.«set_iterator.__next__» slotArgs setEntries
  simp only [List.isEmpty_nil, Bool.not_true, Bool.false_eq_true, if_false, bind_assoc, List.length_nil, bne_self_eq_false, pure_bind]
  refine wpAny_bind (wpAny_fieldsOf hI rfl ?_)
  dsimp only
  refine wpAny_bind (wpAny_setState_of S.get S.data S.tab.fits ?_)
  dsimp only
  rw [ent_size, if_neg (by simp)]
  refine wpAny_bind (wp_setNext_item (i := i) (sl := sl) S hx hs fun sl' hs' => ?_)
  dsimp only
  refine wpAny_bind (wpAny_setField_rec hI (by simp) fun h1 g1 sb1 => ?_)
  refine wpAny_bind (wpAny_setField_rec g1 (by simp) fun h2 g2 sb2 => ?_)
  refine wpAny_pure ?_
  refine ⟨_, rfl, ?_⟩
  refine wpAny_pure (h h2 sl' hs' ?_ (sb1.trans sb2))
  have e : ((i + 1 : Nat) : Int) = (i : Int) + 1 := by omega
  simpa [rawInt, siObj, e] using g2
theorem wp_next_end (hh : A.handled = none) (S : SW hf w s.heap a zs o ep t) {sl : Nat} (hI : s.heap.get? I = some (siObj a sl zs.length zs.length ep)) (hs : BT w = true ∨ SlotAt zs zs.length sl) {Q : Option Value → Shared → Prop}
    (h : ∀ h', Heap.ExtBut I s.heap h' → Q none { s with heap := h' }) : wpAny (model prog w) A (pyNext (.ref I)) Q E s := by
  have ty : s.TypeIs (.ref I) "set_iterator" := ⟨_, hI, rfl⟩
  unfold pyNext
  refine wpAny_bind (wpAny_attempt (wpAny_callSpecial?_slot (name := Str.ofString "__next__") ty slot_si_next (wpAny_call_entry slot_si_next ty entry_si_next ?_ (args_si_next _))))
  unfold Builtin.«set_iterator.__next__» slotArgs setEntries
  simp only [List.isEmpty_nil, Bool.not_true, Bool.false_eq_true, if_false, bind_assoc, List.length_nil, bne_self_eq_false, pure_bind]
  refine wpAny_bind (wpAny_fieldsOf hI rfl ?_)
  dsimp only
  refine wpAny_bind (wpAny_setState_of S.get S.data S.tab.fits ?_)
  dsimp only
  rw [ent_size, if_neg (by simp)]
  refine wpAny_bind (wp_setNext_end (sl := sl) S hs ?_)
  dsimp only
  refine wpAny_bind (wpAny_setField_rec hI (by simp) fun h1 g1 sb1 => ?_)
  refine wpAny_bind ?_
  simp only [newExc, newTuple]
  refine wpAny_bind (wpAny_newObj_type ?_ (by size_fits))
  refine wpAny_bind (m := firstArgMember _ _) (wpAny_of_eq (a := Value.none) (by first | rfl | (simp only [firstArgMember]; rfl)) ?_)
  refine wpAny_newObj_type ?_ (by size_fits)
  simp only [raiseNew]
  refine wpAny_bind (wpAny_handled ?_)
  rw [show A.in1.handled = none from hh]
  refine wpAny_bind (wpAny_pure (wpAny_throw ?_))
  refine wpAny_bind (wpAny_isInstance (T := "StopIteration") (b := true) ⟨_, Heap.get?_push_size _ rfl, rfl⟩ isSubtype_stop ?_)
  exact wpAny_pure (h _ ((sb1.extBut.push _).push _))
theorem s_hint (ty : s.TypeIs (.ref a) "set") {Q : Bool → Shared → Prop} (h : Q false s) : wpAny (model prog w) A (Builtin.List.listLengthHint (.ref a)) Q E s := by
  unfold Builtin.List.listLengthHint
  refine wpAny_bind (wpAny_specialOf ty PySem.F.slot_set_len.lookup ?_)
  generalize hq : ("set.__len__" : String) = nm
  wp_delta
  rw [show splitId nm = some ("set", "__len__") from by subst hq; decide +kernel]
  subst hq
  refine wpAny_bind (wpAny_isInstance (T := "set") (b := true) ty sub_set_self ?_)
  refine wpAny_ite_split (fun c => absurd c (by decide)) fun _ => ?_
  refine wpAny_ite_split (fun _ => ?_) fun c => absurd (by decide +kernel) c
  exact wpAny_bind (wpAny_typeOf ty (wpAny_pure h))
theorem entry_si_iter : entryFor table "set_iterator.__iter__" = some Builtin.«dict_keyiterator.__iter__» := by
  refine entryFor_alias (id' := "dict_keyiterator.__iter__") ?_ rfl (by decide +kernel) ?_ <;> kernel_rfl
theorem args_si_iter (v : Value) : argsOk "set_iterator.__iter__" ⟨[v], []⟩ := by
  unfold argsOk
  rw [signature?_of (id := "set_iterator.__iter__") (n := ['_', '_', 'r', 'e', 't', 'i', '_', '_']) (o := ['r', 'o', 't', 'a', 'r', 'e', 't', 'i', '_', 't', 'e', 's']) (by kernel_rfl) owner_si]
  kernel_rfl
def StI {K : Type} (hf : K → Int) (w : World) (I a : Addr) (zs : List (Row K)) (o : Obj) (ep : Nat) (t : SetTable) (i : Nat) (h : Heap) : Prop :=
  SW hf w h a zs o ep t ∧ ∃ sl, (BT w = true ∨ SlotAt zs i sl) ∧ h.get? I = some (siObj a sl i zs.length ep)
theorem walks_set (hh : A.handled = none) (hne : a ≠ I) : Walks prog w A I [I, a] [I] zs.length (fun i v => (walkE w a ep (ent hf zs))[i]? = some v) (StI hf w I a zs o ep t) where
  sub := fun b hb => by simp only [List.mem_singleton] at hb; simp [hb]
  frame := fun _ _ _ st hk => ⟨st.1.move fun o e => hk a (by simp) o e, let ⟨sl, h1, h2⟩ := st.2; ⟨sl, h1, hk I (by simp) _ h2⟩⟩
  item := fun i s Q E hi st hQ => by
    obtain ⟨S, sl, h1, h2⟩ := st
    have hlt : i < (walkE w a ep (ent hf zs)).length := by rw [walk_len]; exact hi
    refine wp_next_item S h2 (List.getElem?_eq_getElem hlt) h1 fun h' sl' hs' hI' sb => ?_
    refine hQ _ h' s.toks (List.getElem?_eq_getElem hlt) ⟨S.move fun o e => ?_, sl', hs', hI'⟩ fun b o hb e => ?_
    · rw [sb.2 a hne]; exact e
    · rw [sb.2 b fun q => hb (by rw [q]; exact List.mem_singleton.mpr rfl)]; exact e
  done := fun s Q E st hQ => by
    obtain ⟨S, sl, h1, h2⟩ := st
    exact wp_next_end hh S h2 h1 fun h' he => hQ h' s.toks fun b o hb e => he b o (fun q => hb (by rw [q]; exact List.mem_singleton.mpr rfl)) e
  self := fun i s Q E st hQ => by
    obtain ⟨S, sl, h1, h2⟩ := st
    have ty : s.TypeIs (.ref I) "set_iterator" := ⟨_, h2, rfl⟩
    refine wpAny_pyIter_slot ty slot_si_iter (wpAny_call_entry slot_si_iter ty entry_si_iter ?_ (args_si_iter _))
    show wpAny _ _ (ret (.ref I)) _ _ s
    refine wpAny_pure ⟨_, rfl, "set_iterator", _, ty, slot_si_next.lookup, hQ⟩
theorem src_set : KdlSrc prog w "set" a a zs.length (fun i v => (walkE w a ep (ent hf zs))[i]? = some v) (fun h => SW hf w h a zs o ep t) where
  type := fun _ S => ⟨o, S.get, S.cls⟩
  there := fun _ S => ⟨Heap.lt_size S.get, Heap.lt_size S.get⟩
  keep := fun _ _ S hk => S.move fun o e => hk a (.inl rfl) o e
  notList := by decide
  notTuple := by decide
  hint := fun _ _ _ _ S q => s_hint ⟨o, S.get, S.cls⟩ q
  iter := fun A s hh S => ⟨siObj a 0 0 zs.length ep, StI hf w s.heap.objs.size a zs o ep t, (fun _ _ q => wp_iter S q), walks_set hh (Nat.ne_of_lt (Heap.lt_size S.get)),
    S.move fun _ e => Heap.get?_push_of_some _ e, 0, .inr (SlotAt.zero zs), Heap.get?_push_size _ rfl⟩
end
end ST

/-! sorted(set(..)) of tuples of ints. -/
namespace ST
open PySem PySem.SetTable PySem.Spec PyProof.Rows PySem.W
open HT (lexLt)
variable {prog : Program} {w : World} {A : Around} {E : Value → Shared → Prop} {s : Shared}
theorem intsAre_of {ks : List Int} {vs : List Value} (h : ItemsAre (intKind prog w) ks vs) : IntsAre vs ks := by
  induction h with
  | nil => exact .nil
  | cons h1 _ ih =>
    obtain ⟨t, rfl⟩ := Value.isInt_shape h1
    exact .cons _ t ih
theorem TK.tupK {h : Heap} {v : Value} {ns : List Int} (x : TK prog w h ns v) : TS.tupK h v ns := by
  obtain ⟨a, rfl, o, items, n, e, c, d, i⟩ := x
  exact ⟨a, items, rfl, ⟨o, e, c, n, d⟩, intsAre_of i⟩
variable [M.Tabs]
section
variable {a : Addr} {zs : List (Row (List Int))} {o : Obj} {ep : Nat} {t : SetTable}
end
end ST

/-! sorted(set(..)) in plain values. -/
namespace M
open PySem PySem.Spec PyProof.Rows L2
open HT (lexLt)
variable [Tabs]
section
variable {X : Cx} {x y : Str} {p1 p2 q1 q2 : Pos} {e : Expr} {t : TA}
end
section
variable {X : Cx} {x y : Str} {p1 p2 q1 q2 : Pos} {e : Expr} {g : WA} {k : Nat}
end
end M

/-! sum, max, min of a list of ints. -/
namespace M
open PySem PySem.Spec PyProof.Rows L2
variable [Tabs]
end M

/-! list(range(..)). -/
namespace M
open PySem PySem.Spec PyProof.Rows L2
variable [Tabs]
section
variable {X : Cx} {p1 p2 q1 q2 : Pos} {e : Expr} {t : TA}
end
section
variable {X : Cx} {p1 p2 q1 q2 : Pos} {e : Expr} {g : WA} {k : Nat}
end
end M

/-! A tuple of ints in a list or tuple of such ones. -/
namespace M
open PySem PySem.Spec PyProof.Rows L2
variable [Tabs]
section
variable {X : Cx}
end
end M

/-! min(.., default=None) of a list of ints. -/
namespace MD
open PySem PySem.Spec PyProof.Rows
section
variable {prog : Program} {w : World} {A : Around} {R : Result → Shared → Prop} {I : Addr} {fp wr : List Addr} {n : Nat} {P : Nat → Value → Prop} {St : Nat → Heap → Prop} {kw : List (Str × Value)}
end
section
variable {prog : Program} {w : World} {A : Around} {E : Value → Shared → Prop} {s : Shared}
end
end MD
namespace M
open PySem PySem.Spec PyProof.Rows L2
variable [Tabs]
section
variable {X : Cx} {x : Str} {p py kp pos : Pos} {e : Expr} {t : TA} {j : Nat}
end
section
variable {X : Cx} {x : Str} {p py kp pos : Pos} {e : Expr} {g : WA} {j : Nat} {k : Nat}
end
end M

/-! enumerate(tuple). -/
namespace MD
open PySem PySem.Spec PyProof.Rows L2
section
variable {prog : Program} {w : World} {A : Around} {E : Value → Shared → Prop} {s : Shared}
end
end MD
namespace M
open PySem PySem.Spec PyProof.Rows L2 MD
variable [Tabs]
end M

/-! Names of the module that stand for a number or a text. -/
namespace M
open PySem PySem.Spec PyProof.Rows L2
variable [Tabs]
theorem j_gint {X : Cx} {x : Str} {i : Int} {pos : Pos} (h : ∃ t, X.mg x = some (.int i t)) (hg : Gl X x := by rfl) (hd : (x == ("__debug__" : Str)) = false := by decide) : JE X (.Name x pos) (wC (.int i)) := by
  obtain ⟨t, h⟩ := h
  exact jc (pe_glob (v := .int i) hg h ⟨t, rfl⟩ hd) fun _ _ _ => .int i
end M

/-! Sets of ints: what is added is looked for one by one, but laid by the table. -/
namespace ST
open PySem PySem.SetTable PySem.Spec PyProof.Rows
variable {prog : Program} {w : World} {A : Around} {E : Value → Shared → Prop} {s : Shared}
abbrev HI (prog : Program) (w : World) : Int → Int := (intKind prog w).hash
structure SI (prog : Program) (w : World) (h : Heap) (a : Addr) (zs : List (Row Int)) (o : Obj) (ep : Nat) (t : SetTable) : Prop where
  get : h.get? a = some o
  cls : o.cls = .type "set"
  data : o.data = .set (ent (HI prog w) zs) ep t
  tab : Tab (HI prog w) zs t
  plain : t.plain = true
  led : t.led = !BT w
  keys : ∀ e ∈ zs, ∃ tk, e.2.2 = Value.int e.2.1 tk
  nd : (zs.map fun e => e.2.1).Nodup
theorem SI.sw {h : Heap} {a : Addr} {zs : List (Row Int)} {o : Obj} {ep : Nat} {t : SetTable} (S : SI prog w h a zs o ep t) : SW (HI prog w) w h a zs o ep t := ⟨S.get, S.cls, S.data, S.tab, S.plain, S.led⟩
theorem SI.move {h h' : Heap} {a : Addr} {zs : List (Row Int)} {o : Obj} {ep : Nat} {t : SetTable} (S : SI prog w h a zs o ep t) (e : h'.get? a = some o) : SI prog w h' a zs o ep t := ⟨e, S.cls, S.data, S.tab, S.plain, S.led, S.keys, S.nd⟩
/-- a probe that takes nothing for what it looks for ends at the first free place -/
theorem never_go {K : Type} {hf : K → Int} {zs : List (Row K)} {t : SetTable} (T : Tab hf zs t) {h : Int} : ∀ (f m : Nat), (∃ x, m ≤ x ∧ x < m + f ∧ ¬ Occ zs (PP t.mask h x).j) →
    ∃ m', m ≤ m' ∧ (∀ y, m ≤ y → y < m' → Occ zs (PP t.mask h y).j) ∧ ¬ Occ zs (PP t.mask h m').j ∧ probe.go t (fun _ => h + 1) h f (PP t.mask h m) = some (.empty (PP t.mask h m').j none) := by
  intro f
  induction f with
  | zero => rintro m ⟨x, a, b, _⟩; omega
  | succ f ih =>
    rintro m ⟨x, a, b, c⟩
    unfold probe.go
    by_cases hc : Occ zs (PP t.mask h m).j
    · obtain ⟨e, he, ej⟩ := id hc
      obtain ⟨i, hs, hi⟩ := slot_live T he
      rw [ej] at hs
      rw [hs]
      dsimp only
      have hne : x ≠ m := by rintro rfl; exact c hc
      obtain ⟨m', g1, g2, g3, g4⟩ := ih (m + 1) ⟨x, by omega, by omega, c⟩
      refine ⟨m', by omega, fun y h1 h2 => ?_, g3, ?_⟩
      · by_cases hy : y = m
        · subst hy; exact hc
        · exact g2 y (by omega) h2
      · rw [if_neg (by simp; omega), advance_eq]
        exact g4
    · rw [slot_empty T hc]
      dsimp only
      rw [PP_dummy]
      exact ⟨m, Nat.le_refl _, fun y h1 h2 => by omega, hc, rfl⟩
theorem free_slot {K : Type} {hf : K → Int} {zs : List (Row K)} {t : SetTable} (T : Tab hf zs t) (h : Int) : ∃ m, (∀ y, y < m → Occ zs (PP t.mask h y).j) ∧ ¬ Occ zs (PP t.mask h m).j ∧ t.freeSlot h = some ((PP t.mask h m).j, false) := by
  obtain ⟨x, hx, hno⟩ := T.freeAt h
  obtain ⟨m, _, g2, g3, g4⟩ := never_go T (h := h) (10 * turns t.mask) 0 ⟨x, Nat.zero_le _, by omega, hno⟩
  refine ⟨m, fun y hy => g2 y (Nat.zero_le _) hy, g3, ?_⟩
  unfold SetTable.freeSlot
  have e : t.probe (fun _ => h + 1) h (t.probeStart h) = some (.empty (PP t.mask h m).j none) := g4
  rw [e]
  rfl
section
variable {a : Addr} {zs : List (Row Int)} {o : Obj} {ep : Nat} {t : SetTable}
theorem elems_of (zs : List (Row Int)) (hk : ∀ e ∈ zs, ∃ tk, e.2.2 = Value.int e.2.1 tk) : ElemsOf (intKind prog w) (ent (HI prog w) zs).toList := by
  intro e he
  unfold ent at he
  obtain ⟨z, hz, rfl⟩ := List.mem_map.mp he
  obtain ⟨tk, h⟩ := hk z hz
  dsimp only
  rw [h]
  exact ⟨⟨z.2.1, intKind_is prog w _ _, rfl⟩, rfl⟩
theorem all_scan (zs : List (Row Int)) (hk : ∀ e ∈ zs, ∃ tk, e.2.2 = Value.int e.2.1 tk) : (ent (HI prog w) zs).all (·.2.scannable) = true := by
  rw [Array.all_eq_true_iff_forall_mem]
  intro e he
  obtain ⟨_, h⟩ := elems_of (prog := prog) (w := w) zs hk e (Array.mem_toList_iff.mpr he)
  exact h
theorem is_int (k k' : Int) (tk : Nat) : (intKind prog w).is k (.int k' tk) = decide (k = k') := KeyKind.is_eq_decide (intKind_is prog w k' tk) k
theorem addI_ok (S : SI prog w s.heap a zs o ep t) (hfl : zs.length * 5 < t.mask * 3) (hn : zs.length < 306) {k : Int} {tk : Nat} {Q : Bool → Shared → Prop}
    (h : ∀ b h' zs' o' ep' t', Heap.SameBut a s.heap h' → SI prog w h' a zs' o' ep' t' → zs'.length * 5 < t'.mask * 3 →
      ((∃ e ∈ zs, e.2.1 = k) ∧ zs' = zs ∨ (zs'.map (·.2)).Perm ((k, Value.int k tk) :: zs.map (·.2))) → Q b { s with heap := h' }) :
    wpAny (model prog w) A (setAddHashed a (.int k tk) (HI prog w k)) Q E s := by
  unfold setAddHashed setAddHashedIn
  refine wpAny_holding (wpAny_bind (wpAny_setState_of S.get S.data S.tab.fits ?_))
  dsimp only
  have hsc : byScan (.int k tk) (ent (HI prog w) zs) = true := by
    unfold byScan
    rw [all_scan zs S.keys, ent_size, decide_eq_true (show zs.length < scanBound by unfold scanBound; omega)]
    rfl
  rw [hsc, if_pos rfl]
  refine wpAny_bind ?_
  unfold setAddByScan
  refine wpAny_bind (wpAny_rule (wpAny_bind (m := setScanFrom a (.int k tk) (HI prog w k) true (ent (HI prog w) zs).toList 0) (wpAny_setScanFrom_of (knd := intKind prog w) (intKind_is prog w k tk) S.get S.data S.tab.fits _ 0 (elems_of zs S.keys) ?_)))
  cases hfi : (ent (HI prog w) zs).toList.findIdx? (fun e => (intKind prog w).is k e.2) with
  | some j =>
    dsimp only
    refine wpAny_pure (wpAny_pure ?_)
    have hin : ∃ e ∈ zs, e.2.1 = k := by
      obtain ⟨hj, hp, _⟩ := List.findIdx?_eq_some_iff_getElem.mp hfi
      have hm := List.getElem_mem hj
      generalize (ent (HI prog w) zs).toList[j] = e at hp hm
      unfold ent at hm
      obtain ⟨z, hz, rfl⟩ := List.mem_map.mp hm
      obtain ⟨tz, ez⟩ := S.keys z hz
      dsimp only at hp
      rw [ez, is_int] at hp
      exact ⟨z, hz, (of_decide_eq_true hp).symm⟩
    exact h false s.heap zs o ep t (Heap.SameBut.refl a s.heap) S hfl (.inl ⟨hin, rfl⟩)
  | none =>
    have hnk : ∀ e ∈ zs, e.2.1 ≠ k := fun z hz hk => by
      have := List.findIdx?_eq_none_iff.mp hfi (HI prog w z.2.1, z.2.2) (by unfold ent; exact List.mem_map.mpr ⟨z, hz, rfl⟩)
      obtain ⟨tz, ez⟩ := S.keys z hz
      dsimp only at this
      rw [ez, is_int, decide_eq_true hk.symm] at this
      exact nomatch this
    dsimp only
    obtain ⟨m, hoc, hfree, hslot⟩ := free_slot S.tab (HI prog w k)
    obtain ⟨z1, z2, hz, hp, hris⟩ := put_eq (hf := HI prog w) S.tab (e := ((PP t.mask (HI prog w k) m).j, k, Value.int k tk)) hfree
    subst hz
    have hp : t.put (PP t.mask (HI prog w k) m).j = _ := hp
    have hmask : (z1 ++ z2).length + 1 ≤ t.mask := by
      have ok := S.tab.ok
      simp only [okm, List.mem_cons, List.not_mem_nil, or_false] at ok
      omega
    have T1 := put_tab (hf := HI prog w) S.tab hris (by have := j_le t.mask (HI prog w k) m; omega) hmask (m := m) rfl hoc
    have hent : insertAt (ent (HI prog w) (z1 ++ z2)) z1.length (HI prog w k, .int k tk) = ent (HI prog w) (z1 ++ ((PP t.mask (HI prog w k) m).j, k, .int k tk) :: z2) := insertAt_ent z1 z2 ((PP t.mask (HI prog w k) m).j, k, .int k tk)
    have hlay : layNew t (ent (HI prog w) (z1 ++ z2)) (HI prog w k) (.int k tk) = (ent (HI prog w) (z1 ++ ((PP t.mask (HI prog w k) m).j, k, .int k tk) :: z2), { t with place := plc (z1 ++ ((PP t.mask (HI prog w k) m).j, k, Value.int k tk) :: z2) }, false, false) := by
      unfold layNew
      rw [hslot]
      dsimp only
      rw [hp]
      dsimp only
      rw [hent]
      have fi := T1.fits
      unfold SetTable.orStandIn
      rw [fi]
      rfl
    rw [hlay]
    dsimp only
    refine wpAny_bind (wpAny_of_eq (a := ()) rfl ?_)
    rw [if_pos S.plain, hashByValue_scannable _ (x := .int k tk) rfl]
    refine wpAny_bind (wpAny_pure ?_)
    simp only [if_pos (show plainKind (.int k tk) = true from rfl)]
    generalize hzn : (z1 ++ ((PP t.mask (HI prog w k) m).j, k, Value.int k tk) :: z2) = zn at T1
    have hlen : zn.length = (z1 ++ z2).length + 1 := by rw [← hzn]; simp; omega
    have hperm : (zn.map (·.2)).Perm ((k, Value.int k tk) :: (z1 ++ z2).map (·.2)) := by
      rw [← hzn, List.map_append, List.map_cons, List.map_append]
      exact List.perm_middle
    have keysOf : ∀ {zs' : List (Row Int)}, (zs'.map (·.2)).Perm ((k, Value.int k tk) :: (z1 ++ z2).map (·.2)) → (∀ e ∈ zs', ∃ tk, e.2.2 = Value.int e.2.1 tk) ∧ (zs'.map fun e => e.2.1).Nodup := fun {zs'} hpm => by
      refine ⟨fun e he => ?_, ?_⟩
      · have hm : e.2 ∈ (k, Value.int k tk) :: (z1 ++ z2).map (·.2) := hpm.mem_iff.mp (List.mem_map.mpr ⟨e, he, rfl⟩)
        rcases List.mem_cons.mp hm with ee | hm
        · rw [ee]; exact ⟨tk, rfl⟩
        · obtain ⟨e', he', ee⟩ := List.mem_map.mp hm
          rw [← ee]; exact S.keys e' he'
      · have h1 := hpm.map (fun p : Int × Value => p.1)
        rw [List.map_map, List.map_cons, List.map_map] at h1
        refine (h1.nodup_iff).mpr ?_
        rw [List.nodup_cons]
        refine ⟨fun c => ?_, S.nd⟩
        obtain ⟨e, he, ee⟩ := List.mem_map.mp c
        exact hnk e he ee
    have hb := Heap.SameBut.update s.heap a (Obj.putSet (ent (HI prog w) zn) { t with place := plc zn })
    have g1 := Heap.get?_update_self (Obj.putSet (ent (HI prog w) zn) { t with place := plc zn }) S.get (by rw [putSet_of _ _ S.data]; rfl)
    rw [putSet_of _ _ S.data] at g1
    refine wpAny_bind (wpAny_storeSet_of S.get S.data ?_ (by rw [ent_size, hlen, sizeLine_eq]; omega))
    have hfull : SetTable.tooFull { t with place := plc zn } = decide (((z1 ++ z2).length + 1) * 5 ≥ t.mask * 3) := by
      unfold SetTable.tooFull SetTable.fill
      rw [show (SetTable.mk t.mask (plc zn) t.dummies t.finger t.led t.moves t.plain).place.size = (z1 ++ z2).length + 1 by show (plc _).size = _; rw [plc_size, hlen], S.tab.dum]
      rfl
    rw [hfull]
    by_cases hc : ((z1 ++ z2).length + 1) * 5 ≥ t.mask * 3
    · rw [decide_eq_true hc, if_pos (show (!false && true) = true from rfl)]
      obtain ⟨m1, m2, m3, m4⟩ := relay_size S.tab.ok hfl hc hn
      obtain ⟨zs', order, e1, e2, e3, e4, e5⟩ := laid_ok (hf := HI prog w) m1 zn (by omega) t.finger (t.movedTo (sizeAbove (grown ((z1 ++ z2).length + 1)) - 1)) t.led t.plain
      have hl2 : zs'.length = zn.length := by have := e3.length_eq; simpa using this
      have hre : relayAll { t with place := plc zn } (ent (HI prog w) zn) (grown (ent (HI prog w) zn).size) = (ent (HI prog w) zs', { mask := sizeAbove (grown ((z1 ++ z2).length + 1)) - 1, place := plc zs', dummies := #[], finger := t.finger, led := t.led, moves := t.movedTo (sizeAbove (grown ((z1 ++ z2).length + 1)) - 1), plain := t.plain }, false) := by
        unfold relayAll
        rw [ent_size, hlen]
        have hr : SetTable.relaid { t with place := plc zn } ((ent (HI prog w) zn).map (·.1)) (grown ((z1 ++ z2).length + 1)) = _ := e1
        rw [hr]
        dsimp only
        rw [e2]
        have cov : coversAll order ((z1 ++ z2).length + 1) = true := by
          unfold coversAll
          rw [List.isPerm_iff, ← hlen]
          exact e5
        rw [cov, e4.fits]
        rfl
      rw [hre]
      dsimp only
      refine wpAny_bind (wpAny_of_eq (a := ()) rfl ?_)
      have S1d : ({ o with data := .set (ent (HI prog w) zn) (ep + 1) { t with place := plc zn } } : Obj).data = .set (ent (HI prog w) zn) (ep + 1) { t with place := plc zn } := rfl
      have hb2 := Heap.SameBut.update (s.heap.update a (Obj.putSet (ent (HI prog w) zn) { t with place := plc zn })) a (Obj.putSet (ent (HI prog w) zs') { mask := sizeAbove (grown ((z1 ++ z2).length + 1)) - 1, place := plc zs', dummies := #[], finger := t.finger, led := t.led, moves := t.movedTo (sizeAbove (grown ((z1 ++ z2).length + 1)) - 1), plain := t.plain })
      have g2 := Heap.get?_update_self (Obj.putSet (ent (HI prog w) zs') { mask := sizeAbove (grown ((z1 ++ z2).length + 1)) - 1, place := plc zs', dummies := #[], finger := t.finger, led := t.led, moves := t.movedTo (sizeAbove (grown ((z1 ++ z2).length + 1)) - 1), plain := t.plain }) g1 (by rw [putSet_of _ _ S1d]; rfl)
      rw [putSet_of _ _ S1d] at g2
      obtain ⟨k1, k2⟩ := keysOf (e3.trans hperm)
      refine wpAny_bind (wpAny_storeSet_of (s := { s with heap := _ }) g1 S1d ?_ (by rw [ent_size, hl2, hlen, sizeLine_eq]; omega))
      exact wpAny_pure (wpAny_pure (h true _ zs' _ _ _ (hb.trans hb2) ⟨g2, S.cls, rfl, e4, S.plain, S.led, k1, k2⟩ (by rw [hl2, hlen]; exact m3) (.inr (e3.trans hperm))))
    · rw [decide_eq_false hc, if_neg (by decide)]
      obtain ⟨k1, k2⟩ := keysOf hperm
      exact wpAny_pure (wpAny_pure (h true _ zn _ _ _ hb ⟨g1, S.cls, rfl, T1, S.plain, S.led, k1, k2⟩ (by rw [hlen]; show _ < t.mask * 3; omega) (.inr hperm)))
end
end ST

/-! set() of a list of ints, and what sorted makes of it. -/
namespace ST
open PySem PySem.SetTable PySem.Spec PyProof.Rows PySem.W
variable {prog : Program} {w : World} {A : Around} {E : Value → Shared → Prop} {s : Shared}
theorem freshI {h : Heap} {a : Addr} (e : h.get? a = some (newSetO w)) : SI prog w h a [] (newSetO w) 0 (.fresh 0 0 (!BT w)) :=
  ⟨e, rfl, rfl, ⟨rfl, rfl, by show 7 ∈ _; decide, List.Pairwise.nil, (fun _ h => nomatch h), Nat.zero_le _, fun _ h => nomatch h⟩, rfl, rfl, (fun _ h => nomatch h), List.Pairwise.nil⟩
/-- the keys are those of the first i items -/
def UpI (ks : List Int) (i : Nat) (zs : List (Row Int)) : Prop := ∀ k, (∃ e ∈ zs, e.2.1 = k) ↔ k ∈ ks.take i
theorem UpI.step {ks : List Int} {i : Nat} {zs zs' : List (Row Int)} (U : UpI ks i zs) {k : Int} {x : Value} (hk : ks[i]? = some k) (h : (∃ e ∈ zs, e.2.1 = k) ∧ zs' = zs ∨ (zs'.map (·.2)).Perm ((k, x) :: zs.map (·.2))) : UpI ks (i + 1) zs' := by
  intro j
  rw [List.take_add_one, hk, Option.toList_some, List.mem_append, List.mem_singleton, ← U j]
  rcases h with ⟨hin, rfl⟩ | hp
  · exact ⟨.inl, fun c => c.elim id fun c => c ▸ hin⟩
  · have h1 := hp.map (fun p : Int × Value => p.1)
    rw [List.map_map, List.map_cons, List.map_map] at h1
    have e : ∀ ys : List (Row Int), (∃ e ∈ ys, e.2.1 = j) ↔ j ∈ ys.map ((fun p : Int × Value => p.1) ∘ fun x => x.2) := fun ys => by
      rw [List.mem_map]; exact Iff.rfl
    rw [e zs', h1.mem_iff, List.mem_cons, e zs]
    exact Or.comm
section
variable {R : Result → Shared → Prop} {I : Addr} {fp wr : List Addr} {G : Array GenState → Array GenState → Prop} {n : Nat} {P : Nat → Value → Prop} {St : Nat → Shared → Prop}
theorem loopI (W : WalksS prog w A.in1 I fp wr G n P St) (a : Addr) (ha : a ∉ fp) (ks : List Int) (hP : ∀ i v, P i v → ∃ k tk, ks[i]? = some k ∧ v = Value.int k tk) (hn : n < 306) :
    ∀ (r i : Nat) (s : Shared) (zs : List (Row Int)) (o : Obj) (ep : Nat) (t : SetTable), n - i = r → i ≤ n → St i s → SI prog w s.heap a zs o ep t → zs.length * 5 < t.mask * 3 → UpI ks i zs → zs.length ≤ i →
      (∀ s' zs' o' ep' t', Moved (a :: wr) G s s' → SI prog w s'.heap a zs' o' ep' t' → UpI ks n zs' → zs'.length ≤ n → R (.ok (.ret .none)) s') →
      codeAny (model prog w) A (.builtin "set.update.loop" ⟨[.ref a, .ref I], []⟩) R s := by
  have haw : a ∉ wr := fun h => ha (W.sub _ h)
  have up : ∀ b ∈ wr, b ∈ a :: wr := fun b hb => List.mem_cons_of_mem _ hb
  intro r
  induction r with
  | zero =>
    intro i s zs o ep t hr hi hst hS hl U hz hR
    obtain rfl : i = n := by omega
    refine codeAny_builtin PyProof.Rows.F.entry_set_update_loop (Around.under_plainId PyProof.Rows.F.plain_set_update_loop _ ▸ wpAny_bind (m := pyNext (.ref I)) (W.done s _ _ hst fun s' mv => ?_))
    exact wpAny_pure (hR s' zs o ep t (mv.mono up) (hS.move (mv.heap a _ haw hS.get)) U hz)
  | succ r ih =>
    intro i s zs o ep t hr hi hst hS hl U hz hR
    have hi1 : i + 1 ≤ n := by omega
    have hr1 : n - (i + 1) = r := by omega
    refine codeAny_builtin PyProof.Rows.F.entry_set_update_loop (Around.under_plainId PyProof.Rows.F.plain_set_update_loop _ ▸ wpAny_bind (m := pyNext (.ref I)) (W.item i s _ _ (by omega) hst fun v s' hPv hst' mv => ?_))
    obtain ⟨k, tk, hk, rfl⟩ := hP i v hPv
    have hS' := hS.move (mv.heap a _ haw hS.get)
    dsimp only
    refine wpAny_bind (wpAny_holding ?_)
    unfold setAdd
    refine wpAny_holding (wpAny_bind ((intKind prog w).pyHash (intKind_is prog w k tk) ?_))
    refine addI_ok (s := { s' with toks := s'.toks + 1 }) hS' hl (by omega) fun bb h' zs' o' ep' t' sb S1 l1 hz1 => ?_
    have hlen : zs'.length ≤ i + 1 := by
      rcases hz1 with ⟨_, rfl⟩ | hp
      · omega
      · have := hp.length_eq
        simp only [List.length_map, List.length_cons] at this
        omega
    have off : ∀ c, c ≠ a → ∀ oc, s'.heap.get? c = some oc → h'.get? c = some oc := fun c hc oc ec => by rw [sb.2 c hc]; exact ec
    refine wpAny_pure ⟨plainId_quiet PyProof.Rows.F.plain_set_update_loop _, ih (i + 1) _ zs' o' ep' t' hr1 hi1 (W.frame _ s' _ _ hst' (Nat.le_add_right _ _) fun c hc oc ec => off c (fun q => ha (q ▸ hc)) oc ec) S1 l1 (U.step hk hz1) hlen fun s2 zs2 o2 ep2 t2 mv2 S2 U2 l2 => ?_⟩
    refine hR s2 zs2 o2 ep2 t2 (Moved.trans W.gtrans ((mv.mono up).then_heap (Nat.le_add_right _ _) fun c oc hc ec => off c (fun q => hc (q ▸ List.mem_cons_self)) oc ec) mv2) S2 U2 l2
end
theorem call_setI {l : Addr} {items : Array Value} {ks : List Int} {Q : Value → Shared → Prop} (hh : A.handled = none) (hl : s.heap.IsList l items) (hi : IntsAre items.toList ks) (hn : items.size < 306)
    (h : ∀ (h' : Heap) (tk : Nat) zs o ep t, SI prog w h' s.heap.objs.size zs o ep t → UpI ks items.size zs → zs.length ≤ items.size → (∀ b o, s.heap.get? b = some o → h'.get? b = some o) → Q (.ref s.heap.objs.size) { s with heap := h', toks := tk }) :
    wpAny (model prog w) A (call (.type "set") [.ref l]) Q E s := by
  obtain ⟨cc, tt, mro⟩ := PySem.F.called_set.mro
  have made := PySem.F.called_set.made
  have sub0 := PySem.F.called_set.sub
  have sub1 := PySem.F.called_set.notType
  have sub2 := PySem.F.called_set.canCreate
  have chk := PySem.F.typeCall_set_1 (.ref l)
  refine wpAny_call (codeAny_of_tree (wpAny_pure (a := Fin.again _) ⟨Code.quiet_builtin _ (by decide +kernel), codeAny_builtin PySem.F.entry_type_call (Around.under_plain (weight_type_call_type "set" [.ref l] []) rfl ▸ ?_)⟩))
  repeat (any_goals (first | assumption | wp_step))
  refine codeAny_mono (new_set (.ref l) (E := E) (Q := fun x s1 => x = .ref s.heap.objs.size ∧ s1 = { s with heap := s.heap.push (newSetO w) }) ⟨rfl, rfl⟩) fun r s1 hr => ?_
  cases r with
  | error e => exact hr
  | ok fl =>
    cases fl with
    | ret obj =>
      obtain ⟨rfl, rfl⟩ := hr
      have at0 : (s.heap.push (newSetO w)).get? s.heap.objs.size = some (newSetO w) := Heap.get?_push_size _ rfl
      have ty : Shared.TypeIs { s with heap := s.heap.push (newSetO w) } (.ref s.heap.objs.size) "set" := ⟨_, at0, rfl⟩
      have li := PySem.F.called_set.init.lookup
      have bi := PySem.F.called_set.init.bind (.ref s.heap.objs.size)
      repeat (any_goals (first | assumption | wp_step))
      refine codeAny_mono (codeAny_call_builtin (R := wants (fun r s2 => r = .none ∧ ∃ h' tk zs o ep t, s2 = { s with heap := h', toks := tk } ∧ SI prog w h' s.heap.objs.size zs o ep t ∧ UpI ks items.size zs ∧ zs.length ≤ items.size ∧ ∀ b o, s.heap.get? b = some o → h'.get? b = some o) E)
        PySem.F.called_set.init.plain PySem.F.entry_set_init (check_set_init_1 ty ?_)) fun r2 s2 hr2 => ?_
      · obtain ⟨⟨oc, od, odt, os⟩, gl, cl, nl, dl⟩ := hl
        dsimp only at cl dl
        subst cl
        subst dl
        have gl' : (s.heap.push (newSetO w)).get? l = some { cls := .type "list", dict := od, data := .seq items nl, slots := os } := Heap.get?_push_of_some _ gl
        have no1 := PySem.F.sub_list_set
        have no2 := PySem.F.sub_list_frozenset
        have no3 : (Value.type "list" == Value.type "dict") = false := by decide
        have il : (s.heap.push (newSetO w)).IsList l items := ⟨_, gl', rfl, nl, rfl⟩
        have lS : l < s.heap.objs.size := Heap.lt_size gl
        have sz : (s.heap.push (newSetO w)).objs.size = s.heap.objs.size + 1 := Heap.size_push ..
        delta Builtin.«set.__init__» noKeywords Builtin.Frozenset.updateFrom
        generalize hPI : pyIter = PI
        wp_walk
        subst hPI
        refine wpAny_pyIter_list il (wpAny_bind (wpAny_runValue ?_))
        have up2 : ∀ b o, s.heap.get? b = some o → ((s.heap.push (newSetO w)).push { cls := .type "list_iterator", data := .fields #[.ref l, .int 0 0] }).get? b = some o := fun b o e => Heap.get?_push_of_some _ (Heap.get?_push_of_some _ e)
        have at1 := Heap.get?_push_of_some { cls := .type "list_iterator", data := .fields #[.ref l, .int 0 0] } at0
        refine loopI ((Walks.list (by simpa using hh) _ l (by rw [sz]; exact Nat.ne_of_lt (Nat.lt_succ_of_lt lS)) items).toS) s.heap.objs.size (by rw [sz]; simp only [List.mem_cons, List.not_mem_nil, or_false, not_or]; exact ⟨Nat.ne_of_lt (Nat.lt_succ_self _), Nat.ne_of_gt lS⟩) ks (fun i v hv => ?_) hn (items.size - 0) 0 _ [] _ _ _ rfl (Nat.zero_le _) ⟨⟨_, Heap.get?_push_size _ rfl, rfl, rfl⟩, il.push _⟩ (freshI at1) (by show 0 * 5 < 7 * 3; decide) (fun k => by simp) (Nat.zero_le _) fun s' zs' o' ep' t' mv S' U' l' => ?_
        · have hv : items.toList[i]? = some v := by rw [Array.getElem?_toList]; exact hv
          obtain ⟨tk, e⟩ := IntsAre.int_at hi i v hv
          have hlt : i < ks.length := by rw [← hi.length]; exact (List.getElem?_eq_some_iff.mp hv).1
          refine ⟨ks[i], tk, List.getElem?_eq_getElem hlt, ?_⟩
          rw [e, List.getD_eq_getElem?_getD, List.getElem?_eq_getElem hlt]
          rfl
        · change wpAny _ _ _ _ _ _
          refine wpAny_pure (wpAny_pure ⟨rfl, s'.heap, s'.toks, zs', o', ep', t', (Moved.eq_with mv).trans rfl, S', U', l', fun b o e => mv.heap b o ?_ (up2 b o e)⟩)
          have hb := Heap.lt_size e
          rw [sz]
          simp only [List.mem_cons, List.not_mem_nil, or_false, not_or]
          exact ⟨Nat.ne_of_lt hb, Nat.ne_of_lt (Nat.lt_succ_of_lt hb)⟩
      · cases r2 with
        | error e => exact hr2
        | ok f2 =>
          cases f2 with
          | ret r =>
            obtain ⟨rfl, h', tk, zs, o, ep, t, rfl, S', U', l', k'⟩ := hr2
            repeat (any_goals (first | assumption | wp_step))
            exact h _ _ _ _ _ _ S' U' l' k'
          | _ => exact hr2.elim
    | _ => exact hr.elim
end ST

/-! sorted(set(..)) of ints, in plain values. -/
namespace ST
open PySem PySem.SetTable PySem.Spec PyProof.Rows PySem.W
variable {prog : Program} {w : World} {A : Around} {E : Value → Shared → Prop} {s : Shared}
section
variable {a : Addr} {zs : List (Row Int)} {o : Obj} {ep : Nat} {t : SetTable}
theorem sorted_setI [M.Tabs] (S : SI prog w s.heap a zs o ep t) (hh : A.handled = none) (hn : zs.length ≤ sizeLine) {Q : Value → Shared → Prop}
    (h : ∀ (out : List Value) (h' : Heap) (l : Addr) (e tk : Nat), out.Perm (zs.map (·.2.2)) → out.Pairwise (fun u v => numOf u ≤ numOf v) → s.heap.objs.size ≤ l → (∀ b o, s.heap.get? b = some o → h'.get? b = some o) → h'.get? l = some (seqObj "list" out.toArray e) → Q (.ref l) { s with heap := h', toks := tk }) :
    wpAny (model prog w) A (call (.builtin "sorted") [.ref a]) Q E s := by
  refine Calls.call_function_entry (A := A) kind_sorted plain_sorted entry_sorted (args_sorted1 _) ?_
  delta Builtin.«sorted»
  refine wpAny_bind (m := checkCount _ 1 1 _) (wpAny_pure (wpAny_bind (M.with_size (Nat.le_refl _) (kdu_collect (A := A.in1) (src_set (ep := ep)) hh S.sw hn fun h' tk acc hk hacc hge => ?_))))
  have hvs : acc.toList = walkE w a ep (ent (HI prog w) zs) := by
    refine List.ext_getElem? fun i => ?_
    by_cases c : i < acc.size
    · rw [hacc.2 i acc[i] (Array.getElem?_eq_getElem c), Array.getElem?_toList, Array.getElem?_eq_getElem c]
    · rw [List.getElem?_eq_none (by simpa using c), List.getElem?_eq_none (by rw [walk_len, ← hacc.1]; omega)]
  have hperm : acc.toList.Perm (zs.map (·.2.2)) := by rw [hvs]; exact walk_perm w a ep zs
  have hlen : acc.toList.length ≤ sizeLine := by rw [hperm.length_eq, List.length_map]; exact hn
  have isI : ∀ v ∈ acc.toList, ∃ n t, v = Value.int n t := fun v hv => by
    obtain ⟨e, he, rfl⟩ := List.mem_map.mp (hperm.mem_iff.mp hv)
    obtain ⟨tk, h⟩ := S.keys e he
    exact ⟨_, tk, h⟩
  refine wpAny_bind (wpAny_newList ?_ hlen)
  replace hge : s.heap.objs.size ≤ h'.objs.size := hge
  have hoL : (h'.push (seqObj "list" acc.toList.toArray 0)).get? h'.objs.size = some (seqObj "list" acc.toList.toArray 0) := Heap.get?_push_size _ rfl
  change wpAny _ _ _ _ _ { s with heap := h'.push (seqObj "list" acc.toList.toArray 0), toks := tk }
  refine wpAny_bind (wpAny_holding (wpAny_call_entry slot_list_sort ⟨_, hoL, rfl⟩ entry_list_sort ?_ (args_list_sort _)))
  refine TS.list_sort_gen (KD := fun kd => kd = oneType') (D := M.DI) (less := fun x y => decide (numOf x.1 < numOf y.1)) hoL hlen (fun s'' Q k h2 q => ?_) (fun s'' kd k hkd => by subst hkd; exact M.cmp_int) (fun v hv => ⟨rfl, isI v hv⟩) fun out hp hz => ⟨_, rfl, ?_⟩
  · have hi : IntsAre acc.toList (acc.toList.map numOf) := intsAre_map _ isI
    match acc.toList, hi, h2 with
    | v₁ :: v₂ :: rest, hi, _ =>
      rw [keyKind_ints hi]
      exact wpAny_pure (q _ rfl)
  · obtain ⟨hp1, hmem⟩ := M.out_vals hp
    obtain ⟨e, he⟩ := sortedHeap_at (vs := acc.toList) (out := out.map (·.2)) hoL
    refine wpAny_pure ⟨_, rfl, h (out.map (·.2)).toList _ _ e tk (hp1.trans hperm) ?_ hge (fun b o' hb => ?_) (by rw [Array.toArray_toList]; exact he)⟩
    · rw [Array.toList_map, List.pairwise_map]
      refine List.Pairwise.imp_of_mem (fun {p q} hp hq h => ?_) hz
      have h := of_decide_eq_false (show decide (numOf q.1 < numOf p.1) = false from h)
      rw [(hmem p hp).1, (hmem q hq).1] at h
      omega
    · have hb' := hk b o' hb
      rw [sortedHeap_old (Nat.ne_of_lt (Heap.lt_size hb')) (by rw [size_push']; exact Nat.lt_succ_of_lt (Heap.lt_size hb'))]
      exact Heap.get?_push_of_some _ hb'
end
theorem sorted_of_setI [M.Tabs] {l : Addr} {items : Array Value} {ks : List Int} {P : Value → Shared → Prop} (hh : A.handled = none) (hl : s.heap.IsList l items) (hi : IntsAre items.toList ks) (hn : items.size < 306)
    (h : ∀ (out : List Value) (ns : List Int) (h' : Heap) (p : Addr) (e tk : Nat), IntsAre out ns → (∀ k, k ∈ ns ↔ k ∈ ks) → ns.Pairwise (· < ·) → ns.length ≤ items.size → s.heap.objs.size ≤ p → (∀ b o, s.heap.get? b = some o → h'.get? b = some o) → h'.get? p = some (seqObj "list" out.toArray e) → P (.ref p) { s with heap := h', toks := tk }) :
    wpAny (model prog w) A (call (.type "set") [.ref l]) (fun u s1 => wpAny (model prog w) A (call (.builtin "sorted") [u]) P E s1) E s := by
  refine M.with_size (Nat.le_refl _) (call_setI hh hl hi hn fun h1 tk zs o ep t S U hle k1 hsz => ?_)
  refine sorted_setI (s := { s with heap := h1, toks := tk }) S hh (by rw [sizeLine_eq]; omega) fun out h' p e tk' hp ho hge kp he => ?_
  have kz : ∀ z ∈ zs, numOf z.2.2 = z.2.1 := fun z hz => by obtain ⟨tk, e⟩ := S.keys z hz; rw [e]; rfl
  have isI : ∀ v ∈ out, ∃ n t, v = Value.int n t := fun v hv => by
    obtain ⟨z, hz, rfl⟩ := List.mem_map.mp (hp.mem_iff.mp hv)
    obtain ⟨tk, h⟩ := S.keys z hz
    exact ⟨_, tk, h⟩
  have hpn : (out.map numOf).Perm (zs.map fun z => z.2.1) := by
    have := hp.map numOf
    rw [List.map_map] at this
    refine this.trans (.of_eq (List.map_congr_left fun z hz => kz z hz))
  refine h out (out.map numOf) h' p e tk' (intsAre_map _ isI) (fun k => ?_) ?_ (by rw [List.length_map, hp.length_eq, List.length_map]; exact hle) (Nat.le_trans hsz hge) (fun b o e => kp b o (k1 b o e)) he
  · rw [hpn.mem_iff, List.mem_map]
    have e := U k
    rw [List.take_of_length_le (by rw [← hi.length]; simp)] at e
    exact e
  · have nd : (out.map numOf).Nodup := hpn.nodup_iff.mpr S.nd
    unfold List.Nodup at nd
    have le : (out.map numOf).Pairwise (· ≤ ·) := by rw [List.pairwise_map]; exact ho
    exact List.Pairwise.imp (fun {x y} (h : _ ∧ _) => by omega) (List.Pairwise.and nd le)
end ST
namespace M
open PySem PySem.Spec PyProof.Rows L2
variable [Tabs]
def rSortSetI (K : PySem.W.Frag) : List V → Hp → VK → Prop := fun vs H Q => ∃ (a : Addr) (ks : List Int), vs = [V.ref a] ∧ SqL K H a (ks.map V.int) ∧ ks.length < 306 ∧
  ∀ (ns : List Int) (p : Addr), (∀ k, k ∈ ns ↔ k ∈ ks) → ns.Pairwise (· < ·) → H p = none → Q (.ref p) (upd H p (.lst (ns.map V.int)))
section
variable {X : Cx} {x y : Str} {p1 p2 q1 q2 : Pos} {e : Expr} {t : TA}
theorem pe_sortSetI (hh : X.A.handled = none) (gx : Gl X x) (mx : X.mg x = none) (vx : bootBuiltins x = some (.builtin "sorted")) (gy : Gl X y) (my : X.mg y = none) (vy : bootBuiltins y = some (.type "set"))
    (ha : PA X [e] t) (nx : x ≠ "__name__" := by decide) (dx : (x == ("__debug__" : Str)) = false := by decide) (ny : y ≠ "__name__" := by decide) (dy : (y == ("__debug__" : Str)) = false := by decide) (he : starEach [e] X.env = (false, eval e X.env) :: starEach [] X.env := by rfl) :
    PE X (.Call (.Name x p1) [.Call (.Name y p2) [e] [] q2] [] q1) (tCB (rSortSetI X.K) t) := by
  intro pins s σ H Q I h
  refine wpAny_Call_Name_kw (ld_blt I gx mx vx (PyProof.Rows.callWith_builtin1 ?_ rfl rfl) nx dx)
  change wpAny _ _ (spliced ((false, eval (.Call (.Name y p2) [e] [] q2) X.env) :: backTo q1 (starEach [] X.env))) _ _ s
  refine Calls.spliced_cons (wpAny_Call_Name_kw (ld_blt I gy my vy (PyProof.Rows.callWith_type1 (thn (ha q2 pins s σ H _ I h) fun us s1 ⟨vs, H1, I1, r1, z⟩ => ?_) he rfl) ny dy))
  obtain ⟨a, ks, rfl, hs, hl, q⟩ := z
  rw [Vals.ref1 r1]
  obtain ⟨its, rv, ⟨o, n, e0, c0, d0, s0⟩, hz⟩ := I1.list hs
  have hi := rv.ints
  have hlen : its.length = ks.length := by rw [← rv.length, List.length_map]
  refine wpAny_mono (ST.sorted_of_setI (P := fun u s' => EP X pins σ Q u s') hh (items := its.toArray) (ks := ks) ⟨o, e0, c0, n, s0⟩ (by simpa using hi) (by simp; omega) fun out ns h' p ep tk' m1 m2 m3 m4 m5 m6 m7 => ?_) (fun u s' z => Calls.spliced_nil z) fun _ _ z => z
  have hle : (ns.map V.int).length ≤ sizeLine := by
    rw [List.length_map]
    rw [List.length_map] at hz
    have : its.toArray.size = ks.length := by simp [hlen]
    omega
  exact ⟨.ref p, upd H1 p (.lst (ns.map V.int)), I1.laid (t' := tk') m6 m5 ⟨hle, _, ep, vals_of_ints m1, m7⟩, rfl, q ns p m2 m3 (I1.hok.fresh m5)⟩
end
def pSortSetI : PSp
  | [.ref n], S, Q => ∃ ks : List Int, SL S n (ks.map PV.int) ∧ ks.length < 306 ∧ ∀ ns : List Int, (∀ k, k ∈ ns ↔ k ∈ ks) → ns.Pairwise (· < ·) → Q (.ref S.length) (S ++ [.lst (ns.map PV.int)])
  | _, _, _ => False
theorem rvs_of_ints {K : PySem.W.Frag} {ι : List Addr} {H : Hp} : ∀ ns : List Int, RVs K ι H (ns.map PV.int) (ns.map V.int)
  | [] => .nil
  | n :: ns => .cons (.int n) (rvs_of_ints ns)
theorem kp_sortSetI {K : PySem.W.Frag} : KpN K pSortSetI (rSortSetI K) := fun ι H S xs vs Qp Q s rx h k => by
  match xs, rx, h with
  | [.ref n], rx, ⟨ks, hy, hl, q⟩ =>
    obtain ⟨v, rfl, r⟩ := rx.one
    cases r with
    | ref ha =>
      obtain ⟨ws, h1, h2⟩ := s.sl ha hy
      rw [h2.ints_of] at h1
      exact ⟨_, ks, rfl, h1, hl, fun ns p m1 m2 hp => new_list s (rvs_of_ints ns) k (q ns m1 m2) p hp⟩
section
variable {X : Cx} {x y : Str} {p1 p2 q1 q2 : Pos} {e : Expr} {g : WA} {k : Nat}
theorem j_sortSetI (hr : Room k X.A) (mx : X.mg x = none) (vx : bootBuiltins x = some (.builtin "sorted")) (my : X.mg y = none) (vy : bootBuiltins y = some (.type "set")) (ha : JA X [e] g) (gx : Gl X x := by rfl) (gy : Gl X y := by rfl)
    (nx : x ≠ "__name__" := by decide) (dx : (x == ("__debug__" : Str)) = false := by decide) (ny : y ≠ "__name__" := by decide) (dy : (y == ("__debug__" : Str)) = false := by decide) (he : starEach [e] X.env = (false, eval e X.env) :: starEach [] X.env := by rfl) :
    JE X (.Call (.Name x p1) [.Call (.Name y p2) [e] [] q2] [] q1) (wCall pSortSetI g) :=
  ⟨pe_imp (pe_sortSetI hr.hd gx mx vx gy my vy ha.pa nx dx ny dy he) (tCB_of kp_sortSetI)⟩
end
end M

/-! xs[i] = v; the greater and the lesser of two; while. -/
namespace M
open PySem PySem.Spec PyProof.Rows L2
variable [Tabs]
/-- a list's item is laid over -/
def wIPut (fo fi fv : WE) : WS := fun D fr S => fv fr S fun v S1 => fo fr S1 fun x S2 => fi fr S2 fun y S3 => ∃ n xs k j, x = .ref n ∧ y = .int k ∧ S3[n]? = some (.lst xs) ∧ ixN xs.length k = some j ∧ D.nx fr (S3.set n (.lst (xs.set j v)))
theorem RVs.setAt {K : PySem.W.Frag} {ι : List Addr} {H : Hp} {p : PV} {v : V} (r : RV K ι H p v) : ∀ {ps : List PV} {vs : List V}, RVs K ι H ps vs → ∀ j, RVs K ι H (ps.set j p) (vs.set j v)
  | _, _, .nil, _ => .nil
  | _, _, .cons _ t, 0 => .cons r t
  | _, _, .cons q t, j + 1 => .cons q (RVs.setAt r t j)
section
variable {X : Cx} {o i value : Expr} {fo fi fv : WE} {pos pos' : Pos}
theorem js_iput (ho : JE X o fo) (hi : JE X i fi) (hv : JE X value fv) (hs : swapsWithSole [.Subscript o i pos'] value pos.line X.env = pure false := by rfl) (hw : swappedStores [.Subscript o i pos'] value X.env = pure none := by rfl)
    (h1 : (assignEach [.Subscript o i pos'] X.env).map (·.2) = [assign (.Subscript o i pos') X.env] := by rfl)
    (ha : ∀ v, assign (.Subscript o i pos') X.env v = (do
      let ov ← holding [v] (eval o X.env)
      let iv ← holding [v, ov] (eval i X.env)
      standAt pos'
      holding [v, ov, iv] (setItem ov iv v)
      release [v, ov, iv] []) := by intro _; rfl) :
    JS X (.Assign [.Subscript o i pos'] value pos) (wIPut fo fi fv) :=
  ⟨ps_imp (ps_asg hv.pe (pg_sub ho.pe hi.pe set_list ha) hs hw h1) fun D σ H ⟨ι, fr, S, P, hF, hS, hf, l⟩ => ⟨ι, fr, S, _, hF, hS, hf, fun ι1 H1 S1 p v f1 s1 r1 q1 =>
    ⟨ι1, fr, S1, _, hF.fut f1, s1, q1, fun ι2 H2 S2 x w f2 s2 r2 q2 => ⟨ι2, fr, S2, _, hF.fut (f1.trans f2), s2, q2, fun ι3 H3 S3 y u f3 s3 r3 q3 => by
      obtain ⟨n, xs, k, j, rfl, rfl, g1, g2, q⟩ := q3
      have f13 := (f1.trans f2).trans f3
      cases r3
      cases r2.fut f3 with
      | ref ha =>
        obtain ⟨ws, e1, r4⟩ := s3.ls ha g1
        obtain ⟨f4, s4⟩ := set_lst s3 ha g1 (RVs.setAt (r1.fut (f2.trans f3)) r4 j)
        exact ⟨_, ws, k, j, rfl, rfl, e1, by rw [← r4.length]; exact g2, l.nx ι3 _ _ fr σ (f13.trans f4) s4 ((hF.fut f13).fut f4) q⟩⟩⟩⟩⟩
end
def pMax2 : PSp
  | [.int i, .int j], S, Q => Q (.int (max i j)) S
  | _, _, _ => False
theorem b_max2 {X : Cx} (hc : X.calm = true) : CR1 X (.builtin "max") pMax2 := ⟨_, call_max2 hc, fun ι H S xs vs Qp Q s rx h k => by
  match xs, rx, h with
  | [.int i, .int j], rx, q =>
    cases rx with
    | cons r1 t =>
      cases t with
      | cons r2 t =>
        cases t
        cases r1
        cases r2
        refine ⟨i, j, rfl, k ι H S _ _ .refl s (.int _) ?_⟩
        have e : (if j > i then j else i) = max i j := by split <;> omega
        rw [e]
        exact q⟩
end M

/-! Comprehensions with two names for the items of pairs. -/
namespace M
open PySem PySem.Spec PyProof.Rows L2
variable [Tabs]
section
variable {X : Cx} {elt iter : Expr} {ifs : List Expr} {scope : Scope} {x y : Str} {pos px py tp : Pos} {tk : Nat} {wi : WI} {t : WT} {e : WE}
end
end M

/-! An item taken out of a list at its place. -/
namespace M
open PySem PySem.Spec PyProof.Rows L2
variable [Tabs]
theorem RVs.erase {K : PySem.W.Frag} {ι : List Addr} {H : Hp} : ∀ {ps : List PV} {vs : List V} (i : Nat), RVs K ι H ps vs → RVs K ι H (ps.eraseIdx i) (vs.eraseIdx i)
  | _, _, _, .nil => .nil
  | _, _, 0, .cons _ t => t
  | _, _, i + 1, .cons q t => .cons q (RVs.erase i t)
end M

/-! tuple(range(..)). -/
namespace PySem
open Sem (wp)
section
variable {prog : Program} {w : World} {A : Around} {E : Value → Shared → Prop} {s : Shared} {r : Addr} {a b c : Int} {t u v : Tok} {n : Nat}
end
end PySem
namespace M
open PySem PySem.Spec PyProof.Rows L2
variable [Tabs]
section
variable {X : Cx} {p1 p2 q1 q2 : Pos} {e : Expr} {t : TA}
end
section
variable {X : Cx} {p1 p2 q1 q2 : Pos} {e : Expr} {g : WA} {k : Nat}
end
end M

/-! A tuple, so many times. -/
namespace PySem
open Sem (wp)
end PySem
namespace M
open PySem PySem.Spec PyProof.Rows L2
variable [Tabs]
end M

/-! int(), str(), ~, texts cut and joined, stars within a display, lists as what is told apart. -/
namespace M
open PySem PySem.Spec PyProof.Rows L2
variable [Tabs]
section
variable {X : Cx}
def pInt : PSp
  | [.int i], S, Q => Q (.int i) S
  | [.bl k], S, Q => Q (.int (if k then 1 else 0)) S
  | [.str a], S, Q => ∃ n, PySem.intText? a = some n ∧ a.length ≤ 640 ∧ Q (.int n) S
  | _, _, _ => False
theorem b_int : CR1 X (.type "int") pInt := ⟨_, CallR.or call_int1 call_int_str, fun ι H S xs vs Qp Q s rx h k => by
  match xs, rx, h with
  | [.int i], rx, h =>
    obtain ⟨v, rfl, r⟩ := rx.one
    cases r
    exact .inl (.inl ⟨i, rfl, k ι H S _ _ .refl s (.int _) h⟩)
  | [.bl b], rx, h =>
    obtain ⟨v, rfl, r⟩ := rx.one
    cases r
    exact .inl (.inr ⟨b, rfl, k ι H S _ _ .refl s (.int _) h⟩)
  | [.str a], rx, ⟨n, h1, h2, h⟩ =>
    obtain ⟨v, rfl, r⟩ := rx.one
    cases r
    exact .inr ⟨a, n, rfl, h1, h2, k ι H S _ _ .refl s (.int _) h⟩⟩
theorem RVs.strs {K : PySem.W.Frag} {ι : List Addr} {H : Hp} : ∀ ys : List Str, RVs K ι H (ys.map PV.str) (ys.map V.str)
  | [] => .nil
  | y :: ys => .cons (.str y) (RVs.strs ys)
end
/-! ### stars -/
def tStar (K : PySem.W.Frag) (te : TE) (t : TA) : TA := fun σ H Q => te σ H fun x H1 => ∃ a xs, x = .ref a ∧ (SqL K H1 a xs ∨ SqT K H1 a xs) ∧ t σ H1 fun ys H2 => Q (xs ++ ys) H2
section
variable {X : Cx} {e : Expr} {es : List Expr} {te : TE} {t : TA} {p : Pos}
theorem pa_star (ha : PE X e te) (hr : PA X es t) (hs : starEach (.Starred e p :: es) X.env = (true, eval e X.env) :: starEach es X.env := by rfl) : PA X (.Starred e p :: es) (tStar X.K te t) := by
  intro pos pins s σ H Q I h
  refine PySem.W.items_star (thn (ha pins s σ H _ I h) fun u s1 ⟨x, H1, I1, r1, a, xs, e1, hq, q1⟩ => ?_) hs
  subst e1
  cases r1
  have go : ∀ {T : String} {o : Obj} {its : List Value} {n : Nat}, (T = "list" ∨ T = "tuple") → s1.heap.get? a = some o → o.cls = .type T → o.data = .seq its.toArray n → its.length ≤ sizeLine → Vals xs its →
      PySem.W.StarOf (model X.prog X.w) X.A X.xe (.ref a) (fun here s2 => wpAny (model X.prog X.w) X.A (spliced (backTo pos (starEach es X.env))) (fun vs s3 => AP X pins σ Q (here ++ vs) s3) X.xe s2) s1 := by
    intro T o its n hT ho hc hd hz rv
    have ty : s1.TypeIs (.ref a) T := ⟨o, ho, hc⟩
    have z : wpAny (model X.prog X.w) X.A (collect (.ref a)) (fun here s2 => wpAny (model X.prog X.w) X.A (spliced (backTo pos (starEach es X.env))) (fun vs s3 => AP X pins σ Q (here ++ vs) s3) X.xe s2) X.xe s1 := by
      refine wpAny_collect_seq a hT ho hc hd (fun h' hk => ?_) (by simpa using hz)
      have I2 := I1.kept (t' := s1.toks) hk
      refine thn (hr pos pins _ σ H1 _ I2 q1) fun us s2 ⟨ys, H2, I3, r3, q3⟩ => ⟨xs ++ ys, H2, I3, ?_, q3⟩
      simpa using rv.append r3
    unfold PySem.W.StarOf notIterableAtAll
    rcases hT with rfl | rfl
    · exact wpAny_bind (wpAny_specialOf ty PySem.F.slot_list_iter.lookup (wpAny_pure ⟨rfl, z⟩))
    · exact wpAny_bind (wpAny_specialOf ty PySem.F.slot_tuple_iter.lookup (wpAny_pure ⟨rfl, z⟩))
  rcases hq with hq | hq
  · obtain ⟨its, rv, ⟨o, n, ho, hc, _, hd⟩, hz⟩ := I1.list hq
    exact go (.inl rfl) ho hc hd (by rw [← rv.length]; exact hz) rv
  · obtain ⟨its, rv, ⟨o, ho, hc, n, hd⟩, hz⟩ := I1.tuple hq
    exact go (.inr rfl) ho hc hd (by rw [← rv.length]; exact hz) rv
end
def wStar (f : WE) (g : WA) : WA := fun fr S Q => f fr S fun x S1 => ∃ xs, Sq S1 x xs ∧ g fr S1 fun ys S2 => Q (xs ++ ys) S2
theorem ja_star {X : Cx} {e : Expr} {es : List Expr} {fe : WE} {g : WA} {p : Pos} (he : JE X e fe) (hr : JA X es g) (hs : starEach (.Starred e p :: es) X.env = (true, eval e X.env) :: starEach es X.env := by rfl) : JA X (.Starred e p :: es) (wStar fe g) :=
  ⟨pa_imp (pa_star he.pe hr.pa hs) fun σ H Q ⟨ι, fr, S, Qp, hF, hS, hf, k⟩ => ⟨ι, fr, S, _, hF, hS, hf, fun ι1 H1 S1 x v f1 s1 r1 ⟨xs, hx, q1⟩ => by
    obtain ⟨a, vs, rfl, h1, h2⟩ := s1.sq r1 hx
    exact ⟨a, vs, rfl, h1, ι1, fr, S1, _, hF.fut f1, s1, q1, fun ι2 H2 S2 ys ws f2 s2 r2 q2 => k ι2 H2 S2 (xs ++ ys) (vs ++ ws) (f1.trans f2) s2 ((h2.fut f2).append r2) q2⟩⟩⟩
/-! ### a list or a tuple told apart -/
end M

/-! ~, texts written of parts, tuple(range(.., ..)), places in a list. -/
namespace M
open PySem PySem.Spec PyProof.Rows L2
variable [Tabs]
def tJs : List TE → Str → TE
  | [], acc => fun _ H Q => acc.length ≤ sizeLine ∧ Q (.str acc) H
  | t :: ts, acc => fun σ H Q => t σ H fun x H1 => ∃ y, x = .str y ∧ (acc ++ y).length ≤ sizeLine ∧ tJs ts (acc ++ y) σ H1 Q
inductive PJs (X : Cx) : List Expr → List TE → Prop
  | nil : PJs X [] []
  | cons {e : Expr} {t : TE} {es : List Expr} {ts : List TE} : PE X e t → PJs X es ts → PJs X (e :: es) (t :: ts)
section
variable {X : Cx} {pos : Pos}
theorem joined {pins : List (Addr × Obj)} {σ : L2.St} {Q : VK} : ∀ {es : List Expr} {ts : List TE}, PJs X es ts → ∀ (acc : Str) (s : Shared) (H : Hp), Inv X pins σ H s → tJs ts acc σ H Q → wpAny (model X.prog X.w) X.A (joinParts acc (es.map fun e => eval e X.env)) (EP X pins σ Q) X.xe s
  | _, _, .nil, acc, s, H, I, ⟨h1, h2⟩ => joinParts_nil ⟨.str acc, H, I.tok _, ⟨_, rfl⟩, h2⟩ h1
  | _, _, .cons (e := e) h t, acc, s, H, I, q => by
    refine joinParts_cons (thn (h pins s σ H _ I q) fun u s1 ⟨x, H1, I1, r1, q1⟩ => ?_)
    obtain ⟨y, rfl, hy, q1⟩ := q1
    obtain ⟨tk, rfl⟩ := r1
    exact ⟨hy, joined t _ s1 H1 I1 q1⟩
end
inductive JJs (X : Cx) : List Expr → List WE → Prop
  | nil : JJs X [] []
  | cons {e : Expr} {f : WE} {es : List Expr} {fs : List WE} : JE X e f → JJs X es fs → JJs X (e :: es) (f :: fs)
section
variable {X : Cx} {pos : Pos}
end
/-! ### tuple(range(a, b)) -/
section
variable {X : Cx} {p1 p2 q1 q2 : Pos} {e e2 : Expr} {t : TA}
end
section
variable {X : Cx} {p1 p2 q1 q2 : Pos} {e e2 : Expr} {g : WA} {k : Nat}
end
end M

/-! A comprehension with two names as its target, over pairs that may be lists. -/
namespace M
open PySem PySem.Spec PyProof.Rows L2
variable [Tabs]
section
variable {X : Cx} {elt iter : Expr} {ifs : List Expr} {scope : Scope} {x y : Str} {pos px py tp : Pos} {tk : Nat} {wi : WI} {t : WT} {e : WE}
end
end M

/-! Names of the module that stand for a tuple of texts; a place in a list. -/
namespace M
open PySem PySem.Spec PyProof.Rows L2
variable [Tabs]
/-- a tuple among the module's own objects -/
def KT (K : PySem.W.Frag) (a : Addr) (vs : List V) : Prop := ∃ (o : Obj) (its : Array Value) (n : Nat), K.lookup a = some o ∧ o.cls = .type "tuple" ∧ o.data = .seq its n ∧ its.size ≤ sizeLine ∧ Vals vs its.toList
end M

/-! Three names at once. -/
namespace M
open PySem PySem.Spec PyProof.Rows L2
variable [Tabs]
end M

/-! A thing put into a list at a place. -/
namespace M
open PySem PySem.Spec PyProof.Rows L2
variable [Tabs]
end M

/-! `name += e` of ints, and a try whose suite raises nothing. -/
namespace M
open PySem PySem.Spec PyProof.Rows L2
variable [Tabs]
section
variable {X : Cx} {pos : Pos} {e : Expr} {fe : WE}
end
end M

/-! AN EXCEPTION ON ITS WAY: its own object, its dict, the traceback's newest entry; the frames that it passes. -/
namespace L2
open PySem PySem.Spec PyProof.Rows

/-- the traceback of an exception: none yet, or its newest entry with what stands in its place of flight -/
def TbOk (H : Hp) (h : Heap) (lo ea : Addr) (vs : Array Value) : Option Value → Prop
  | none => vs[1]? = some .none
  | some f => ∃ T oT ts, vs[1]? = some (.ref T) ∧ lo ≤ T ∧ H T = none ∧ T ≠ ea ∧ h.get? T = some oT ∧ oT.data = .fields ts ∧ ts[3]? = some f
/-- the exception at ea, made behind lo: its class, its dict, its traceback -/
def ExO (H : Hp) (h : Heap) (lo ea : Addr) (cls : Value) (dx : Addr) (fl : Option Value) : Prop :=
  ∃ oe vs, h.get? ea = some oe ∧ oe.cls = cls ∧ oe.dict = some dx ∧ oe.data = .fields vs ∧ lo ≤ ea ∧ H ea = none ∧ TbOk H h lo ea vs fl
/-- what noting changes: the slots of the frames at fs, records made behind lo -/
structure Nt (H : Hp) (fs : List Addr) (lo : Nat) (h h' : Heap) : Prop where
  keep : ∀ b o, h.get? b = some o → b ∉ fs → (b < lo ∨ H b ≠ none ∨ ∀ vs, o.data ≠ .fields vs) → h'.get? b = some o
  slot : ∀ b o, h.get? b = some o → b ∈ fs → (∀ vs, o.data ≠ .fields vs) → ∃ sl, h'.get? b = some { o with slots := sl }
  there : ∀ b o, h.get? b = some o → ∃ o', h'.get? b = some o'
theorem Nt.refl {H : Hp} {fs : List Addr} {lo : Nat} {h : Heap} : Nt H fs lo h h := ⟨fun _ _ e _ _ => e, fun _ o e _ _ => ⟨o.slots, e⟩, fun _ o e => ⟨o, e⟩⟩
theorem Nt.trans {H : Hp} {fs : List Addr} {lo : Nat} {h h1 h2 : Heap} (a : Nt H fs lo h h1) (b : Nt H fs lo h1 h2) : Nt H fs lo h h2 :=
  ⟨fun c o e hf hl => b.keep c o (a.keep c o e hf hl) hf hl, fun c o e hf hn => by
    obtain ⟨sl, e1⟩ := a.slot c o e hf hn
    obtain ⟨sl', e2⟩ := b.slot c { o with slots := sl } e1 hf hn
    exact ⟨sl', e2⟩, fun c o e => by
    obtain ⟨o', e1⟩ := a.there c o e
    exact b.there c o' e1⟩
theorem Nt.funs {H : Hp} {fs : List Addr} {lo : Nat} {h h' base : Heap} {l : List Env} (a : Nt H fs lo h h') (f : h.FunFrames base l) : h'.FunFrames base l :=
  f.of_keeps fun b o e hn => by
    by_cases hb : b ∈ fs
    · obtain ⟨sl, e'⟩ := a.slot b o e hb hn
      exact ⟨_, e', rfl⟩
    · exact ⟨o, a.keep b o e hb (.inr (.inr hn)), rfl⟩
theorem dict_map (f : Array Value → Array Value) (o : Obj) : (Obj.mapFields f o).dict = o.dict := by
  obtain ⟨a, b, c, d⟩ := o
  cases c <;> rfl
section
variable {M : Model} {A : Around} {E : Value → Shared → Prop} {s : Shared} {base : Heap} {env : Env} {outer : List Env} {L lo ea dx : Addr} {cls : Value} {fl : Option Value} {Q : Unit → Shared → Prop} {H : Hp}

/-- a new entry ahead of the traceback -/
theorem entry_new {oe : Obj} {vs : Array Value} {head : Value} {hadNext : Bool} (hfr : A.frames = some (env :: outer)) (hl : s.heap.FunFrames base (env :: outer)) (hf : env.frame = some L) (atE : s.heap.get? ea = some oe)
    (hc : oe.cls = cls) (hx : oe.dict = some dx) (dataE : oe.data = .fields vs) (hlo : lo ≤ ea) (hn : H ea = none) (fr : ∀ b, s.heap.objs.size ≤ b → H b = none) (hsz : 1 < vs.size) (h : ∀ h', Nt H (frs (env :: outer)) lo s.heap h' → ExO H h' lo ea cls dx (some (rawInt L)) → Q () { s with heap := h' }) :
    wpAny M A (do let a ← frameOf env; let pl ← entryPlaceOf L hadNext; let b ← EntryCells.newEntry head a .none (rawInt L) .none pl; setField (.ref ea) 1 b) Q E s := by
  have nf : ea ∉ frs (env :: outer) := fun hm => by
    obtain ⟨_, o, ho, plain⟩ := hl.mem hm
    rw [atE] at ho
    cases ho
    exact plain vs dataE
  refine wpAny_bind (wpAny_frameOf_fun hfr hl hf fun h1 k1 => wpAny_bind (wpAny_entryPlaceOf fun pl hpl => ?_))
  rw [EntryCells.newEntry]; unfold newFields
  refine wpAny_bind (wpAny_newObj_type ?_ (hpl.sizeOk5 _ _ _ _ _))
  have e1 : h1.get? ea = some oe := (k1.2.1 ea nf).trans atE
  generalize htb : ({ cls := .type "traceback", dict := none, data := .fields ([head, .ref L, .none, rawInt L, .none] ++ (if pl.isEmpty then List.replicate 6 Value.none else pl)).toArray } : Obj) = tb
  have e2 : (h1.push tb).get? ea = some oe := Heap.get?_push_of_some tb e1
  refine wpAny_setField e2 dataE hsz (h _ ?_ ?_)
  · have new : ∀ b o, h1.get? b = some o → b ≠ ea → ((h1.push tb).update ea (Obj.mapFields (·.setIfInBounds 1 (Value.ref h1.objs.size)))).get? b = some o := fun b o e n => by
      rw [Heap.get?_update_other _ _ (Ne.symm n)]
      exact Heap.get?_push_of_some tb e
    have stay : ∀ b o, s.heap.get? b = some o → (b < lo ∨ H b ≠ none ∨ ∀ vs, o.data ≠ .fields vs) → b ≠ ea := fun b o e hb z => by
      subst z
      rcases hb with hb | hb | hb
      · exact absurd hb (Nat.not_lt.mpr hlo)
      · exact hb hn
      · rw [atE] at e; cases e; exact hb vs dataE
    refine ⟨fun b o e hb hn => new b o ((k1.2.1 b hb).trans e) (stay b o e hn), fun b o e hb hn => ?_, fun b o e => ?_⟩
    · obtain ⟨sl, e'⟩ := k1.2.2 b o e
      exact ⟨sl, new b _ e' (stay b o e (.inr (.inr hn)))⟩
    · by_cases z : b = ea
      · subst z
        exact ⟨_, Heap.get?_update_self _ e2 (Obj.isFreed_of_fields (Obj.data_mapFields dataE _))⟩
      · obtain ⟨sl, e'⟩ := k1.2.2 b o e
        exact ⟨_, new b _ e' z⟩
  · have nT : h1.objs.size ≠ ea := Nat.ne_of_gt (Heap.lt_size e1)
    have gT : ((h1.push tb).update ea (Obj.mapFields (·.setIfInBounds 1 (Value.ref h1.objs.size)))).get? h1.objs.size = some tb := by
      rw [Heap.get?_update_other _ _ (Ne.symm nT)]
      exact Heap.get?_push_size h1 (by rw [← htb]; rfl)
    refine ⟨_, _, Heap.get?_update_self _ e2 (Obj.isFreed_of_fields (Obj.data_mapFields dataE _)), (Obj.cls_mapFields _ _).trans hc, ?_, Obj.data_mapFields dataE _, hlo, hn, h1.objs.size, tb, _, by simp [hsz], Nat.le_trans hlo (Nat.le_of_lt (Heap.lt_size e1)), fr _ (by rw [k1.1]; exact Nat.le_refl _), nT, gT, by rw [← htb], ?_⟩
    · rw [← hx]; exact dict_map _ _
    · rcases hpl with rfl | ⟨_, _, _, _, _, _, _, rfl⟩ <;> simp
/-- the exception is noted in a frame -/
theorem note_ok (fr : ∀ b, s.heap.objs.size ≤ b → H b = none) (hfr : A.frames = some (env :: outer)) (hl : s.heap.FunFrames base (env :: outer)) (hf : env.frame = some L) (x : ExO H s.heap lo ea cls dx fl) (hfl : fl = none ∨ fl = some .none ∨ fl = some (rawInt L))
    (h : ∀ h', Nt H (frs (env :: outer)) lo s.heap h' → ExO H h' lo ea cls dx (some (rawInt L)) → Q () { s with heap := h' }) : wpAny M A (noteFrame (.ref ea) env) Q E s := by
  obtain ⟨oe, vs, atE, hc, hx, dataE, hlo, hn, ht⟩ := id x
  unfold noteFrame
  simp only [hf]
  cases fl with
  | none =>
    refine wpAny_bind (wpAny_field atE dataE ht ?_)
    rw [if_neg (by decide)]
    exact entry_new hfr hl hf atE hc hx dataE hlo hn fr (Array.getElem?_eq_some_iff.mp ht).1 h
  | some f =>
    obtain ⟨T, oT, ts, h1, lT, uT, nT, atT, dataT, h3⟩ := ht
    refine wpAny_bind (wpAny_field atE dataE h1 ?_)
    rw [if_pos (show (Value.ref T != Value.none) = true from by simp)]
    refine wpAny_bind (wpAny_field atT dataT h3 ?_)
    rcases hfl with z | z | z
    · cases z
    · cases z
      rw [if_neg (show ¬ ((Value.none == rawInt L) = true) from by simp [rawInt])]
      refine wpAny_bind (wpAny_setField atT dataT (Array.getElem?_eq_some_iff.mp h3).1 ?_)
      have off : ∀ b, b ≠ T → (s.heap.update T (Obj.mapFields (·.setIfInBounds 3 Value.none))).get? b = s.heap.get? b := fun b n => Heap.get?_update_other _ _ (Ne.symm n)
      have nt : Nt H (frs (env :: outer)) lo s.heap (s.heap.update T (Obj.mapFields (·.setIfInBounds 3 Value.none))) := by
        have ne : ∀ b o, s.heap.get? b = some o → (b < lo ∨ H b ≠ none ∨ ∀ vs, o.data ≠ .fields vs) → b ≠ T := fun b o e hb z => by
          subst z
          rcases hb with hb | hb | hb
          · exact absurd hb (Nat.not_lt.mpr lT)
          · exact hb uT
          · rw [atT] at e; cases e; exact hb ts dataT
        refine ⟨fun b o e _ hb => (off b (ne b o e hb)).trans e, fun b o e _ hb => ⟨o.slots, (off b (ne b o e (.inr (.inr hb)))).trans e⟩, fun b o e => ?_⟩
        by_cases z : b = T
        · subst z
          exact ⟨_, Heap.get?_update_self _ atT (Obj.isFreed_of_fields (Obj.data_mapFields dataT _))⟩
        · exact ⟨o, (off b z).trans e⟩
      exact entry_new hfr (nt.funs hl) hf ((off ea (Ne.symm nT)).trans atE) hc hx dataE hlo hn (fun b hb => fr b (by rw [Heap.size_update] at hb; exact hb)) (Array.getElem?_eq_some_iff.mp h1).1 fun h' n' x' => h h' (nt.trans n') x'
    · cases z
      rw [if_pos (show (rawInt L == rawInt L) = true from beq_self_eq_true _)]
      exact wpAny_pure (h _ .refl x)
/-- its flight is set -/
theorem flight_ok {f g : Value} {o : Option Addr} (ho : (o.elim Value.none fun f => rawInt f) = g) (x : ExO H s.heap lo ea cls dx (some f)) {fs : List Addr} (h : ∀ h', Nt H fs lo s.heap h' → ExO H h' lo ea cls dx (some g) → Q () { s with heap := h' }) : wpAny M A (setFlight (.ref ea) o) Q E s := by
  obtain ⟨oe, vs, atE, hc, hx, dataE, hlo, hn, T, oT, ts, h1, lT, uT, nT, atT, dataT, h3⟩ := x
  have hz := (Array.getElem?_eq_some_iff.mp h3).1
  unfold setFlight
  refine wpAny_bind (wpAny_field atE dataE h1 ?_)
  rw [if_pos (show (Value.ref T != Value.none) = true from by simp), ho]
  have off : ∀ b, b ≠ T → (s.heap.update T (Obj.mapFields (·.setIfInBounds 3 g))).get? b = s.heap.get? b := fun b n => Heap.get?_update_other _ _ (Ne.symm n)
  have new := Heap.get?_update_self (Obj.mapFields (·.setIfInBounds 3 g)) atT (Obj.isFreed_of_fields (Obj.data_mapFields dataT _))
  have ne : ∀ b o, s.heap.get? b = some o → (b < lo ∨ H b ≠ none ∨ ∀ vs, o.data ≠ .fields vs) → b ≠ T := fun b o e hb z => by
    subst z
    rcases hb with hb | hb | hb
    · exact absurd hb (Nat.not_lt.mpr lT)
    · exact hb uT
    · rw [atT] at e; cases e; exact hb ts dataT
  refine wpAny_setField atT dataT hz (h _ ⟨fun b o e _ hb => (off b (ne b o e hb)).trans e, fun b o e _ hb => ⟨o.slots, (off b (ne b o e (.inr (.inr hb)))).trans e⟩, fun b o e => ?_⟩ ⟨oe, vs, (off ea (Ne.symm nT)).trans atE, hc, hx, dataE, hlo, hn, T, _, _, h1, lT, uT, nT, new, Obj.data_mapFields dataT _, by simp [hz]⟩)
  by_cases z : b = T
  · subst z; exact ⟨_, new⟩
  · exact ⟨o, (off b z).trans e⟩
/-- it leaves a frame -/
theorem leave_ok (fr : ∀ b, s.heap.objs.size ≤ b → H b = none) (hfr : A.frames = some (env :: outer)) (hl : s.heap.FunFrames base (env :: outer)) (hf : env.frame = some L) (x : ExO H s.heap lo ea cls dx fl) (hfl : fl = none ∨ fl = some .none ∨ fl = some (rawInt L))
    (h : ∀ h', Nt H (frs (env :: outer)) lo s.heap h' → ExO H h' lo ea cls dx (some .none) → Q () { s with heap := h' }) : wpAny M A (leaving env (.ref ea)) Q E s := by
  unfold leaving
  exact wpAny_bind (note_ok fr hfr hl hf x hfl fun h1 n1 x1 => flight_ok (g := .none) (o := none) rfl x1 fun h2 n2 x2 => h h2 (n1.trans n2) x2)
end
end L2

/-! AN EXCEPTION ON ITS WAY through a def's body: how it lies there, how it leaves, how it comes out of a call. -/
namespace L2
open PySem PySem.Spec PyProof.Rows

theorem ExO.mono {H : Hp} {h : Heap} {lo lo' ea dx : Addr} {cls : Value} {fl : Option Value} (x : ExO H h lo ea cls dx fl) (l : lo' ≤ lo) : ExO H h lo' ea cls dx fl := by
  obtain ⟨oe, vs, he, hc, hx, hd, hlo, hn, ht⟩ := x
  refine ⟨oe, vs, he, hc, hx, hd, Nat.le_trans l hlo, hn, ?_⟩
  cases fl with
  | none => exact ht
  | some f =>
    obtain ⟨T, oT, ts, h1, lT, r⟩ := ht
    exact ⟨T, oT, ts, h1, Nat.le_trans l lT, r⟩
/-- an exception in a body: made behind lo, all that the body stands on lies ahead of lo -/
structure Fly (X : Cx) (pins : List (Addr × Obj)) (σ : St) (H : Hp) (s : Shared) (lo ea : Addr) (cls : Value) (dx : Addr) (fl : Option Value) : Prop where
  inv : Inv X pins σ H s
  ex : ExO H s.heap lo ea cls dx fl
  lo0 : X.s_0.heap.objs.size ≤ lo
  lol : X.env.locals < lo
  loc : ∀ x c, X.env.cells.lookup x = some c → c < lo
  lop : ∀ p ∈ X.pn ++ pins, p.1 < lo
section
variable {X : Cx} {pins : List (Addr × Obj)} {σ : St} {H : Hp} {s : Shared} {lo ea dx : Addr} {cls : Value} {fl fl' : Option Value} {h' : Heap}
theorem HOk.nt {P : Program} {w : World} {fs : List Addr} {h h' : Heap} (x : HOk P w H h) (n : Nt H fs lo h h') (nf : ∀ b ∈ fs, H b = none) : HOk P w H h' := fun b u e =>
  (x b u e).stay (fun c v hc q => by
    have hH : H c ≠ none := by
      rcases hc with rfl | hc
      · rw [e]; simp
      · rw [hc]; simp
    exact n.keep c v q (fun z => hH (nf c z)) (.inr (.inl hH))) (fun _ q => q) fun _ _ q => q
/-- it is noted, its flight is set -/
theorem Fly.nt (f : Fly X pins σ H s lo ea cls dx fl) (n : Nt H (frs X.stack) lo s.heap h') (x : ExO H h' lo ea cls dx fl') : Fly X pins σ H { s with heap := h' } lo ea cls dx fl' := by
  have I := f.inv
  have nf := I.stkFree
  have sub : ∀ b, b ≠ X.env.locals → b ∉ X.fs → b ∉ frs X.stack := fun b h1 h2 z => (List.mem_cons.mp (I.stkSub b z)).elim h1 h2
  have dat : ∀ b ∈ frs X.stack, ∀ o, s.heap.get? b = some o → ∀ vs, o.data ≠ .fields vs := fun b hb o e => by
    obtain ⟨_, o', e', hn⟩ := I.stack.mem hb
    rw [e] at e'; cases e'; exact hn
  have up : ∀ b ∈ X.fs, b ∈ frs X.stack := fun b hb => by
    rcases I.ok.stk with e | ⟨e, hf⟩
    · rw [e]; exact hb
    · rw [e]
      unfold frs
      rw [List.filterMap_cons, hf]
      exact List.mem_cons_of_mem _ hb
  refine ⟨I.step (ch := (List.range s.heap.objs.size).filter fun b => decide (lo ≤ b)) (g' := s.gens) (d' := s.drawn) (t' := s.toks) (fun b hb => ?_) (fun b o h1 h2 h3 e e0 => ?_) (fun b o h1 h2 h3 e e0 => ?_) (fun _ _ _ _ e => e) (fun b o _ e => n.there b o e) (fun _ _ e => e) (fun _ _ _ e => e) (fun b ps e => ⟨#[], by rw [e]; simp⟩) (fun m hm => ?_) (HOk.nt I.hok n nf) I.bare, x, f.lo0, f.lol, f.loc, f.lop⟩
  · have hl : lo ≤ b := of_decide_eq_true (List.mem_filter.mp hb).2
    exact ⟨.inr (Nat.le_trans f.lo0 hl), Nat.ne_of_gt (Nat.lt_of_lt_of_le f.lol hl), fun y c e => Nat.ne_of_lt (Nat.lt_of_lt_of_le (f.loc y c e) hl), fun p hp => Nat.ne_of_lt (Nat.lt_of_lt_of_le (f.lop p hp) hl)⟩
  · have hb : b < lo := by
      rcases Nat.lt_or_ge b lo with z | z
      · exact z
      · exact absurd (List.mem_filter.mpr ⟨List.mem_range.mpr (Heap.lt_size e), decide_eq_true z⟩) h3
    exact n.keep b o e (sub b h1 h2) (.inl hb)
  · exact n.slot b o e (up b h2) (dat b (up b h2) o e)
  · by_cases hm' : X.env.locals ∈ frs X.stack
    · obtain ⟨o, es, ep, ho, r⟩ := hm
      obtain ⟨sl, e'⟩ := n.slot _ o ho hm' (dat _ hm' o ho)
      exact ⟨_, es, ep, e', r⟩
    · obtain ⟨o, es, ep, ho, r⟩ := hm
      exact ⟨o, es, ep, n.keep _ o ho hm' (.inl f.lol), r⟩
theorem Fly.unpin (f : Fly X pins σ H s lo ea cls dx fl) : Fly X [] σ H s lo ea cls dx fl :=
  ⟨⟨f.inv.ok, f.inv.os, f.inv.bare, f.inv.base, f.inv.loc, f.inv.cell, f.inv.free, f.inv.freeC, fun p hp => f.inv.pin p (by rw [List.append_nil] at hp; exact List.mem_append_left _ hp), f.inv.hok, f.inv.len⟩, f.ex, f.lo0, f.lol, f.loc, fun p hp => f.lop p (by rw [List.append_nil] at hp; exact List.mem_append_left _ hp)⟩
theorem Inv.newer (I : Inv X pins σ H s) : X.s_0.heap.objs.size ≤ s.heap.objs.size ∧ X.env.locals < s.heap.objs.size ∧ (∀ x c, X.env.cells.lookup x = some c → c < s.heap.objs.size) ∧ ∀ p ∈ X.pn ++ pins, p.1 < s.heap.objs.size :=
  ⟨I.sz, I.lt, fun x c e => let ⟨_, _, ho, _⟩ := I.cell x c e; Heap.lt_size ho, fun p hp => Heap.lt_size (I.pin p hp).1⟩
end
/-- what is wanted of an exception in a body: W of its class, its dict, the names' values, the heap -/
abbrev XW := Value → Addr → St → Hp → Prop
/-- an exception that leaves the code of this body -/
def Out (X : Cx) (W : XW) (e : Value) (s : Shared) : Prop :=
  ∃ σ H lo ea cls dx fl, e = .ref ea ∧ Fly X [] σ H s lo ea cls dx fl ∧ (fl = none ∨ fl = some .none ∨ fl = some (rawInt X.env.locals)) ∧ W cls dx σ H
theorem Out.imp {X : Cx} {W W' : XW} {e : Value} {s : Shared} (h : ∀ cls dx σ H, W cls dx σ H → W' cls dx σ H) : Out X W e s → Out X W' e s := fun ⟨σ, H, lo, ea, cls, dx, fl, he, hf, hl, hw⟩ => ⟨σ, H, lo, ea, cls, dx, fl, he, hf, hl, h _ _ _ _ hw⟩
/-- how an exception lies behind a call -/
def CX1 (P : Program) (w : World) : CXT := fun outer H s E e s' =>
  ∃ ea cls dx H', e = .ref ea ∧ s'.os = s.os ∧ AllBare s'.gens ∧ Un (frs outer) [] H H' s.heap s'.heap ∧ HOk P w H' s'.heap ∧ ExO H' s'.heap s.heap.objs.size ea cls dx (some .none) ∧ E cls (some dx) H'
/-- the def's own frame is the uppermost one -/
def Own (X : Cx) : Prop := X.stack = X.env :: X.outer ∧ X.env.frame = some X.env.locals
section
variable {X : Cx} {W : XW} {e : Value} {s : Shared}
/-- loops hand it on -/
theorem Out.passes (o : Own X) : PassesOwn (model X.prog X.w) X.A X.env (Out X W) := by
  rintro _ s ⟨σ, H, lo, ea, cls, dx, fl, rfl, f, hl, hw⟩
  have I := f.inv
  have hfr : X.A.frames = some (X.env :: X.outer) := by rw [← o.1]; exact I.ok.frames
  have hl1 : s.heap.FunFrames X.base (X.env :: X.outer) := by rw [← o.1]; exact I.stack
  refine note_ok (H := H) (fun b hb => I.hok.fresh hb) hfr hl1 o.2 f.ex hl fun h1 n1 x1 => ?_
  rw [← o.1] at n1
  have f1 := f.nt n1 x1
  obtain ⟨oe, vs, he, _, _, hd, _, _, T, oT, ts, h1', _⟩ := id x1
  refine wpAny_bind (wpAny_field he hd h1' ?_)
  rw [if_neg (show ¬ ((Value.ref T == Value.none) = true) from by simp)]
  refine flight_ok (fs := frs X.stack) (g := rawInt X.env.locals) (by rw [o.2]; rfl) x1 fun h2 n2 x2 => ?_
  exact ⟨σ, H, lo, ea, cls, dx, _, rfl, f1.nt n2 x2, .inr (.inr rfl), hw⟩
end
section
variable {P : Program} {w : World} {K : PySem.W.Frag} {mg : Str → Option Value} {base : Heap} {N : List Str} {qual : Str} {scope : Scope} {f : Addr} {cd : Value} {A : Around} {outer : List Env} {s s' : Shared} {H : Hp} {E : XK} {e : Value}
/-- it leaves the def -/
theorem Out.leaves (h : Out (cxOf (CX1 P w) P w K mg base N qual scope f cd A outer s H E) (fun cls dx _ H' => E cls (some dx) H') e s') : (cxOf (CX1 P w) P w K mg base N qual scope f cd A outer s H E).xe e s' := by
  obtain ⟨σ, H', lo, ea, cls, dx, fl, rfl, g, hl, hw⟩ := h
  have I := g.inv
  refine leave_ok (H := H') (fun b hb => I.hok.fresh hb) I.ok.frames I.stack (L := s.heap.objs.size) rfl g.ex hl fun h1 n1 x1 => ?_
  have g1 := g.nt n1 x1
  have I1 := g1.inv
  exact ⟨ea, cls, dx, H', rfl, I1.os, I1.bare, I1.base, I1.hok, x1.mono g.lo0, hw⟩
end
/-- it comes out of a call -/
theorem Inv.raised {X : Cx} {pins : List (Addr × Obj)} {σ : St} {H : Hp} {s s' : Shared} {W : XW} {E : XK} {e : Value} (I : Inv X pins σ H s) (h : CX1 X.prog X.w X.stack H s E e s') (hE : ∀ cls dx H', E cls (some dx) H' → W cls dx σ H') : Out X W e s' := by
  obtain ⟨ea, cls, dx, H', rfl, os, bare, un, hok, x, q⟩ := h
  obtain ⟨hh, g, d, t, os'⟩ := s'
  obtain rfl : os' = s.os := os
  obtain ⟨a1, a2, a3, a4⟩ := I.newer
  have I' := I.call (h' := hh) (g' := g) (d' := d) (t' := t) (ch := []) un hok bare (fun b z => absurd z (by simp))
  exact ⟨σ, H', _, ea, cls, dx, _, rfl, Fly.unpin ⟨I', x, a1, a2, a3, a4⟩, .inr (.inl rfl), hE _ _ _ q⟩
/-- what a callee's exception must be for W -/
def EW (W : XW) (σ : St) : XK := fun cls d H => ∃ dx, d = some dx ∧ W cls dx σ H
def tCallX (sp : Sp) (dvs : List V) (W : XW) (t : TA) : TE := fun σ H Q => t σ H fun vs H1 => sp (vs ++ dvs) H1 Q (EW W σ)
section
variable {X : Cx} {W : XW} {k : Nat} {f : Addr} {fd : FuncData} {ps : List Str} {sp : Sp} {dvs : List V} {ds : List Value} {x : Str} {p pos : Pos} {e : Expr} {es : List Expr} {t : TA}
theorem run_fnX {pins : List (Addr × Obj)} {σ : St} {H : Hp} {s : Shared} {Q : VK} {us : List Value} {vs : List V} (F : FnOk X.prog X.w X.K X.mg X.base (CX1 X.prog X.w) k f fd ps sp) (hr : Room k X.A) (hb : Binds X.K fd ps ds) (hd : Vals dvs ds)
    (I : Inv X pins σ H s) (r : Vals vs us) (h : sp (vs ++ dvs) H Q (EW W σ)) : wpAny (model X.prog X.w) X.A (call (.ref f) us) (EP X pins σ Q) (Out X W) s := by
  have r2 : Vals (vs ++ dvs) (us ++ ds) := r.append hd
  have hl : (us ++ ds).length = ps.length := by rw [← r2.length]; exact F.len _ _ _ _ h
  refine wpAny_call (codeAny_mono (F.run X.A X.stack s H ⟨us, []⟩ (us ++ ds) (vs ++ dvs) Q _ hr I.env0 (hb s us I.kIn hl) r2 h) fun r s' hq => ?_)
  cases r with
  | error e => exact I.raised hq fun cls dx H' ⟨d, hd, q⟩ => by cases hd; exact q
  | ok fl =>
    cases fl with
    | ret u => exact I.after hq
    | next => exact hq.elim
    | brk => exact hq.elim
    | cont => exact hq.elim
/-- f(e, ..) that may raise -/
theorem pe_callX (F : FnOk X.prog X.w X.K X.mg X.base (CX1 X.prog X.w) k f fd ps sp) (hr : Room k X.A) (hg : Gl X x) (hm : X.mg x = some (.ref f)) (hk : PySem.W.keepIn X.K (.ref f) = true) (hb : Binds X.K fd ps ds) (hd : Vals dvs ds)
    (ha : PA X.nox (e :: es) t) (hdb : (x == ("__debug__" : Str)) = false := by decide) (he : starEach (e :: es) X.env = (false, eval e X.env) :: starEach es X.env := by rfl) (hpl : (backTo pos (starEach es X.env)).any (·.1) = false := by rfl) :
    PE (X.wish (Out X W)) (.Call (.Name x p) (e :: es) [] pos) (tCallX sp dvs W t) := by
  intro pins s σ H Q I h
  have I0 := I.unwish
  refine wpAny_Call_Name_kw (ld_glob I hg hm ?_ hdb)
  refine PySem.W.callWith_K (h₀ := X.base) I.ok.mod.kin hk (wpAny_mono (ha pos pins s σ H _ (I0.wish _) h) (fun us s1 ⟨vs, H1, I1, r, q⟩ => ?_) fun _ _ z => False.elim z) he hpl
  refine ⟨I1.kIn, ?_⟩
  refine wpAny_mono (run_fnX (X := X) (W := W) F hr hb hd I1.unwish r q) (fun u s2 ⟨v, H2, I2, r2, q2⟩ => ⟨v, H2, I2.wish _, r2, q2⟩) fun _ _ z => z
end
end L2

/-! AN EXCEPTION IS MADE: a class of one's own above ValueError, with its own __init__. -/
namespace L2
open PySem PySem.Spec PyProof.Rows PySem.Calls
section
variable {prog : Program} {w : World} {A : Around} {h : Heap} {g : Array GenState} {d : Drawn} {t : Nat} {os : OsState} {R : Result → Shared → Prop} {K : PySem.W.Frag}
variable {nm q : Str} {C N f : Addr} {bs bm bmB : List Value} {hdct : Bool} {sn : List Str} {sub : List Value} {ab : Bool} {col : Option Bool} {dd : Option Addr} {k0 k1 k2 k3 k5 : Option Value}
/-- the record of an exception, its arguments at t, its dict -/
def excObj (cls : Value) (t : Addr) (d : Option Addr) : Obj := { cls := cls, dict := d, data := .fields #[.ref t, .none, .none, .none, .bool false, .none] }
theorem exc_call (F : ExcBaseFacts "ValueError" "ValueError.__new__" "ValueError.__init__" bmB) (hB : bmB.contains (.type "ValueError") = true) (X : K.In hp) (atC : hp.get? C = some (excClassObj nm q C N bs bm hdct sn sub ab col dd k0 k1 k2 k3 k5 "ValueError.__new__")) (T : OwnTail hp bmB bm)
    (hi : PySem.W.findIn K (.ref C) "__init__" = some (some (.ref f))) (hf : PySem.W.typeIn K (.ref f) = some (.type "function")) {us : List Value} (hr : us.length ≤ sizeLine)
    (hq : codeAny (model prog w) (A.under (.builtin "type.__call__" ⟨.ref C :: us, []⟩)) (.call (.ref f) ⟨.ref (hp.objs.size + 1) :: us, []⟩) (PySem.W.InitBack (hp.objs.size + 1) R) ⟨(hp.push { cls := .type "tuple", data := .seq us.toArray }).push (excObj (.ref C) hp.objs.size none), ge, dr, tk, os⟩) :
    codeAny (model prog w) A (.call (.ref C) ⟨us, []⟩) R ⟨hp, ge, dr, tk, os⟩ := by
  have f1 := tc_lookup
  have f2 := tc_bind (.ref C)
  have isT : (⟨hp, ge, dr, tk, os⟩ : Shared).TypeIs (.ref C) "type" := ⟨_, atC, rfl⟩
  refine codeAny_of_tree ?_
  show wpAny _ (A.under _) (callAny (.ref C) _) _ _ _
  repeat (any_goals (first | assumption | with_reducible refine wpAny_loadPart_at atC ?_ | wp_step))
  refine ⟨rfl, ?_⟩
  refine codeAny_call_builtin_at (Code.quiet_builtin _ (by decide +kernel)) entry_typeCall (wpAny_check_type_call_sub atC ?_)
  repeat (first | with_reducible refine wpAny_loadPart_at atC ?_ | with_reducible refine wpAny_madeBy_exc atC ?_ | wp_step)
  refine codeAny_call_builtin_code (Code.quiet_builtin _ F.quiet) (wpAny_check_new_subU F hB T atC ?_)
  refine codeAny_exc_new_subU F hB F T atC ?_ hr
  show wpAny _ _ _ _ _ _
  have k : ∀ b o, hp.get? b = some o → ((hp.push { cls := .type "tuple", data := .seq us.toArray }).push (excObj (.ref C) hp.objs.size none)).get? b = some o := fun b o e => Heap.get?_push_of_some _ (Heap.get?_push_of_some _ e)
  have hC1 := k _ _ atC
  have hx : ((hp.push { cls := .type "tuple", data := .seq us.toArray }).push (excObj (.ref C) hp.objs.size none)).get? (hp.objs.size + 1) = some (excObj (.ref C) hp.objs.size none) := by heap_get
  have inB : (Value.ref C :: bm).contains (.ref C) = true := by simp
  have t1 : PySem.W.Looks (model prog w) ((hp.push { cls := .type "tuple", data := .seq us.toArray }).push (excObj (.ref C) hp.objs.size none)) (typeOf (.ref (hp.objs.size + 1))) (.ref C) := (PySem.W.Looks.ld hx).andThen .now
  have s1 : PySem.W.Looks (model prog w) ((hp.push { cls := .type "tuple", data := .seq us.toArray }).push (excObj (.ref C) hp.objs.size none)) (isSubtype (.ref C) (.ref C)) true := fun A Q E s k z => by
    obtain ⟨q0, q1, q2, q3, q4⟩ := s
    refine wpAny_isSubtype_exc (k _ _ hC1) ?_
    rw [inB]
    exact z
  have i1 := (PySem.W.looks_findIn (M := model prog w) X hi).keeps k
  have b1 := (PySem.W.bind_fn (M := model prog w) X (.ref (hp.objs.size + 1)) hf).keeps k
  show wpAny (model prog w) (A.under (.builtin "type.__call__" ⟨.ref C :: us, []⟩)) _ _ _ ⟨(hp.push { cls := .type "tuple", data := .seq us.toArray }).push (excObj (.ref C) hp.objs.size none), ge, dr, tk, os⟩
  generalize (hp.push { cls := .type "tuple", data := .seq us.toArray }).push (excObj (.ref C) hp.objs.size none) = h1 at t1 s1 i1 b1 hq ⊢
  unfold callSpecial? isInstance specialOf
  repeat (first | simp only [inB, Bool.not_true, Bool.false_eq_true, if_false] | with_reducible refine wpAny_call ?_ | lk)
  exact codeAny_mono hq fun res st back => by
    cases res with
    | error e => exact back
    | ok fl =>
      cases fl with
      | ret u =>
        obtain ⟨rfl, done⟩ := back
        exact wpAny_pure (wpAny_pure done)
      | _ => exact back.elim
end
end L2

/-! Attributes of an exception: set and read. -/
namespace L2
open PySem PySem.Spec PyProof.Rows PySem.Calls Builtin.ObjectAttr

/-- what is above a class of one's own above ValueError -/
abbrev bmV : List Value := [.type "ValueError", .type "Exception", .type "BaseException", .type "object"]
/-- the class at C is one of one's own right above the one at R, which is right above ValueError -/
structure XCls (K : PySem.W.Frag) (C R : Addr) : Prop where
  obj : ∃ nm q N bs sn sub ab col dd k0 k1 k2 k3 k5, K.lookup C = some (excClassObj nm q C N bs (.ref R :: bmV) true sn sub ab col dd k0 k1 k2 k3 k5 "ValueError.__new__")
  tail : PySem.W.tailIn K bmV (.ref R :: bmV) = true
  sa : PySem.W.findIn K (.ref C) "__setattr__" = some (some (.builtin "object.__setattr__"))
  ga : PySem.W.findIn K (.ref C) "__getattribute__" = some (some (.builtin "BaseException.__getattribute__"))
  gx : PySem.W.findIn K (.ref C) "__getattr__" = some none
  ob : PySem.W.mroIn K C (.type "object") = some true
  be : PySem.W.mroIn K C (.type "BaseException") = some true
theorem XCls.cls {K : PySem.W.Frag} {C R : Addr} (c : XCls K C R) : ∃ cd, PySem.W.clsIn K C = some cd ∧ cd.mro = [.ref C, .ref R, .type "ValueError", .type "Exception", .type "BaseException", .type "object"] ∧ cd.hasDict = true := by
  obtain ⟨nm, q, N, bs, sn, sub, ab, col, dd, k0, k1, k2, k3, k5, h⟩ := c.obj
  exact ⟨{ name := nm, bases := bs, mro := .ref C :: .ref R :: bmV, ns := N, qualname := q, hasDict := true, slotNames := sn, subclasses := sub, abstract := ab, collection := col, hasDel := false }, by unfold PySem.W.clsIn; rw [h], rfl, rfl⟩
section
variable {prog : Program} {w : World} {A : Around} {K : PySem.W.Frag} {C R0 x : Addr} {s : Shared} {ox : Obj} {od : Option Obj} {name : Str} {tk : Tok} {v : Value} {R : Result → Shared → Prop} {E : Value → Shared → Prop}
theorem xsa_open (X : K.In s.heap) (I : PySem.W.InstAt s.heap x ox C od) (c : XCls K C R0) (hn : PySem.W.findIn K (.ref C) name = some none)
    (h : wpAny (model prog w) A.in1 (storeInOwnDict (.ref x) (.ref C) (.str name tk) name v false) (fun fin s' => match fin with | .done f => R (.ok f) s' | .again c' => c'.quiet = true ∧ codeAny (model prog w) A c' R s') (fun e s' => R (.error e) s') s) : codeAny (model prog w) A (.call (.builtin "object.__setattr__") ⟨[.ref x, .str name tk, v], []⟩) R s := by
  have F := PySem.F.store_object
  have V := PySem.F.store_ValueError
  obtain ⟨cd, hc, hm, _⟩ := c.cls
  have isO : PySem.W.Looks (model prog w) s.heap (isInstance (.ref x) (.type "object")) true := I.type.andThen (PySem.W.looks_mroIn X c.ob)
  have mro : PySem.W.Looks (model prog w) s.heap (mroOf (.ref C)) cd.mro := (PySem.W.looks_clsIn X hc).andThen .now
  refine codeAny_call_builtin F.slot.plain F.entry (@PySem.W.check_slot (model prog w) _ _ s "object.__setattr__" "object" "__setattr__" (.ref x) [.str name tk, v] [] _ F.kind F.split isO (F.args (.ref x) (.str name tk) v) ?_)
  rw [PySem.W.osa_eq, refuse_eq]
  refine wpAny_bind (wpAny_bind (I.type.here (wpAny_bind (mro.here ?_))))
  rw [hm, refuseLoop_ref, refuseLoop_ref, V.passes]
  exact wpAny_pure (wpAny_bind (I.type.here (wpAny_bind ((PySem.W.looks_findIn X hn).here (wpAny_bind (wpAny_pure h))))))
/-- the first attribute: the dict is made -/
theorem xset_new {t : Addr} {Q : Unit → Shared → Prop} (X : K.In s.heap) (c : XCls K C R0) (hx : s.heap.get? x = some (excObj (.ref C) t none)) (hn : PySem.W.findIn K (.ref C) name = some none)
    (h : ∀ h', h'.get? x = some (excObj (.ref C) t (some s.heap.objs.size)) → h'.Ns1 s.heap.objs.size (fun y => if y = name then some v else none) → (∀ b o, b ≠ x → s.heap.get? b = some o → h'.get? b = some o) → Q () { s with heap := h', toks := s.toks + 2 }) :
    wpAny (model prog w) A (setAttr (.ref x) name v) Q E s := by
  have I : PySem.W.InstAt s.heap x (excObj (.ref C) t none) C none := ⟨hx, rfl, rfl, trivial⟩
  obtain ⟨cd, hc, _, hd⟩ := c.cls
  refine PySem.W.set_plain X I c.sa (xsa_open (s := { s with toks := s.toks + 1 }) X I c hn ?_)
  refine wpAny_bind (wpAny_pure (wpAny_bind (wpAny_bind (wpAny_loadPart hx (wpAny_bind (PySem.W.Looks.here (s := { s with toks := s.toks + 1 }) (PySem.W.looks_clsIn X hc) ?_))))))
  rw [hd]
  have nx : x ≠ s.heap.objs.size := Nat.ne_of_lt (Heap.lt_size hx)
  have h1 : (s.heap.push PySem.W.emptyDict).get? x = some (excObj (.ref C) t none) := Heap.get?_push_of_some _ hx
  refine wpAny_bind (wpAny_alloc' (wpAny_bind (wpAny_update' h1 ?_)))
  have gx : ((s.heap.push PySem.W.emptyDict).update x fun o => { o with dict := some s.heap.objs.size }).get? x = some (excObj (.ref C) t (some s.heap.objs.size)) := Heap.get?_update_self _ h1 rfl
  have gd : ((s.heap.push PySem.W.emptyDict).update x fun o => { o with dict := some s.heap.objs.size }).get? s.heap.objs.size = some PySem.W.emptyDict := (Heap.get?_update_ne _ _ _ _ (Ne.symm nx)).trans (Heap.get?_push_size _ rfl)
  have kp : ∀ b o, b ≠ x → s.heap.get? b = some o → ((s.heap.push PySem.W.emptyDict).update x fun o => { o with dict := some s.heap.objs.size }).get? b = some o := fun b o n e => (Heap.get?_update_ne _ _ _ _ n).trans (Heap.get?_push_of_some _ e)
  have ns : ((s.heap.push PySem.W.emptyDict).update x fun o => { o with dict := some s.heap.objs.size }).Ns s.heap.objs.size (fun _ => none) := ⟨_, #[], _, gd, rfl, fun e he => absurd he (by simp), fun _ => rfl⟩
  generalize ((s.heap.push PySem.W.emptyDict).update x fun o => { o with dict := some s.heap.objs.size }) = h2 at gx gd kp ns ⊢
  refine wpAny_pure (wpAny_bind (wpAny_pure (wpAny_bind (wpAny_nsSet1 (s := { s with heap := h2, toks := s.toks + 1 }) (Heap.Ns1.of_empty ns) fun h' n' sb => ?_))))
  obtain ⟨oD, esD, epD, hoD, hdD, hcD⟩ := n'.count (PySem.Within.cons name v PySem.Within.nil)
  refine wpAny_bind (wpAny_lookBehind hoD (by rw [hdD]; exact pastItsLine_dict (Nat.le_trans hcD (by rw [List.length_cons, List.length_nil, sizeLine_eq]; omega))) ?_)
  exact wpAny_pure (h h' ((sb.2 x nx).trans gx) n' fun b o n e => (sb.2 b (Nat.ne_of_lt (Heap.lt_size e))).trans (kp b o n e))
/-- another attribute -/
theorem xset_more {t dx : Addr} {mA : Str → Option Value} {ns : List Str} {Q : Unit → Shared → Prop} (X : K.In s.heap) (c : XCls K C R0) (hx : s.heap.get? x = some (excObj (.ref C) t (some dx))) (hA : s.heap.Ns1 dx mA) (hn : PySem.W.findIn K (.ref C) name = some none)
    (hw : PySem.Within mA ns) (hsz : ns.length ≤ sizeLine) (h : ∀ h', h'.Ns1 dx (fun y => if y = name then some v else mA y) → Heap.SameBut dx s.heap h' → Q () { s with heap := h', toks := s.toks + 2 }) :
    wpAny (model prog w) A (setAttr (.ref x) name v) Q E s := by
  obtain ⟨od, ho, _⟩ := lookIn_ns hA
  have I : PySem.W.InstAt s.heap x (excObj (.ref C) t (some dx)) C (some od) := ⟨hx, rfl, rfl, ho⟩
  obtain ⟨cd, hc, _, hd⟩ := c.cls
  refine PySem.W.set_plain X I c.sa (xsa_open (s := { s with toks := s.toks + 1 }) X I c hn ?_)
  refine wpAny_bind (wpAny_pure (wpAny_bind (wpAny_bind (wpAny_loadPart hx (wpAny_bind (PySem.W.Looks.here (s := { s with toks := s.toks + 1 }) (PySem.W.looks_clsIn X hc) ?_))))))
  rw [hd]
  refine wpAny_pure (a := some dx) (wpAny_bind (wpAny_pure (wpAny_bind (wpAny_nsSet1 (s := { s with toks := s.toks + 1 }) hA fun h' n' sb => ?_))))
  obtain ⟨oD, esD, epD, hoD, hdD, hcD⟩ := n'.count (PySem.Within.cons name v hw)
  refine wpAny_bind (wpAny_lookBehind hoD (by rw [hdD]; exact pastItsLine_dict (Nat.le_trans hcD (by rw [List.length_cons]; omega))) ?_)
  exact wpAny_pure (h h' n' sb)
/-- an attribute is read -/
theorem xget {dx : Addr} {mA : Str → Option Value} {expr : Bool} {Q : Value → Shared → Prop} (X : K.In s.heap) (c : XCls K C R0) (hx : s.heap.get? x = some ox) (hcl : ox.cls = .ref C) (hnc : PySem.W.notCls ox = true) (hdx : ox.dict = some dx) (hA : s.heap.Ns1 dx mA) (hn : PySem.W.findIn K (.ref C) name = some none)
    (hv : mA name = some v) (hv' : PySem.W.handedIn v = true) (h : Q v { s with toks := s.toks + 1 }) : wpAny (model prog w) A (getAttr (.ref x) name expr) Q E s := by
  obtain ⟨od, ho, hl⟩ := lookIn_ns hA
  have I : PySem.W.InstAt s.heap x ox C (some od) := ⟨hx, hcl, hnc, by rw [hdx]; exact ho⟩
  obtain ⟨cd, hc, _, hd⟩ := c.cls
  have hh : PySem.W.hasDictIn K C = true := by unfold PySem.W.hasDictIn; rw [hc]; exact hd
  have lt := I.type (M := model prog w)
  have lg := PySem.W.looks_findIn (M := model prog w) X c.ga
  have lf := PySem.W.looks_find (M := model prog w) X I (PySem.W.findObj_own hh hn rfl (by rw [hl, hv]))
  have isB : PySem.W.Looks (model prog w) s.heap (isInstance (.ref x) (.type "BaseException")) true := I.type.andThen (PySem.W.looks_mroIn X c.be)
  obtain ⟨hp, g, d, t, os⟩ := s
  unfold getAttr getAttrBy
  refine wpAny_bind (wpAny_mkText (wpAny_holding (wpAny_bind (lt.at (wpAny_bind (lg.at ?_))))))
  have hook : PySem.W.Looks (model prog w) hp (hookBefore (.ref C)) none := PySem.W.looks_findIn X c.gx
  show wpAny _ _ (getAttrByItsOwn (.ref x) (.str name t) (.ref C) (.builtin "BaseException.__getattribute__") true expr) _ _ _
  unfold getAttrByItsOwn
  refine wpAny_bind (hook.at (wpAny_bind (wpAny_attempt (wpAny_holding ?_))))
  have fin : codeAny (model prog w) A (.call (.builtin "BaseException.__getattribute__") ⟨[.ref x, .str name t], []⟩) (fun r s' => match r with | .ok (.ret u) => u = v ∧ s' = ⟨hp, g, d, t + 1, os⟩ | _ => False) ⟨hp, g, d, t + 1, os⟩ := by
    refine codeAny_call_builtin PySem.F.excAttr_ValueError.ga.plain PySem.F.entry_bexc_ga (@PySem.W.check_slot (model prog w) _ _ ⟨hp, g, d, t + 1, os⟩ "BaseException.__getattribute__" "BaseException" "__getattribute__" (.ref x) [.str name t] [] _ (by decide +kernel) (by decide +kernel) isB (PySem.F.args_bexc_ga (.ref x) (.str name t)) ?_)
    refine wpAny_bind (wpAny_pure (wpAny_bind (wpAny_pure (wpAny_bind (lt.at (wpAny_bind (lf.at ?_)))))))
    exact wpAny_pure ⟨rfl, rfl⟩
  have ex : (expr && onTheHeap (Value.builtin "BaseException.__getattribute__")) = false := by cases expr <;> rfl
  unfold callGetattribute
  rw [ex, if_neg Bool.false_ne_true]
  unfold boundAndCalled
  rw [PySem.F.excAttr_ValueError.ga.bind (.ref x)]
  refine wpAny_bind (wpAny_pure (wpAny_call (codeAny_mono fin fun r s' z => ?_)))
  rcases r with e | (u | _ | _ | _) <;> first | exact z.elim | skip
  obtain ⟨rfl, rfl⟩ := z
  show wpAny _ _ (handedOut _) _ _ _
  rw [PySem.W.handedOut_of hv']
  exact wpAny_pure h
end
end L2

/-! The __init__ of an exception's class: what it says of itself, what it keeps. -/
namespace L2
open PySem PySem.Spec PyProof.Rows PySem.Calls

/-- an exception that is being made, or that was caught: its class, its dict -/
def XcO (e : Addr) (cls : Value) (d : Option Addr) : HO := .ext fun h => ∃ t, h.get? e = some (excObj cls t d)
theorem upd_eq {H : Hp} {a : Addr} {o : HO} (h : H a = some o) : upd H a o = H := by
  funext b
  unfold upd
  split
  · rename_i e; rw [e, h]
  · rfl
theorem XcO.ok {P : Program} {w : World} {H : Hp} {h : Heap} {e t : Addr} {cls : Value} {d : Option Addr} (x : h.get? e = some (excObj cls t d)) : ObjOk P w H h e (XcO e cls d) :=
  ⟨⟨t, x⟩, ⟨_, x⟩, fun h1 h2 ⟨t, x⟩ k => ⟨t, k _ x⟩⟩
section
variable {X : Cx} {pins : List (Addr × Obj)} {σ : St} {H : Hp} {s : Shared} {e C R : Addr}
/-- a tracked object is another one from now on -/
theorem Inv.put {a : Addr} {o o' : HO} {h' : Heap} {t' : Nat} (I : Inv X pins σ H s) (h : H a = some o) (nt : ∀ xs, o ≠ .tup xs) (nf : ∀ ob u, o ≠ .frz ob u) (nb : ∀ ps, o ≠ .tbl ps) (no : ∀ y, o ≠ .own y) (k : ∀ b u, b ≠ a → s.heap.get? b = some u → h'.get? b = some u)
    (there : ∃ u, h'.get? a = some u) (new : ObjOk X.prog X.w (upd H a o') h' a o') : Inv X pins σ (upd H a o') { s with heap := h', toks := t' } := by
  have ne : ∀ b u, H b = some u → o ≠ u → b ≠ a := fun b u q n z => by subst z; rw [h] at q; cases q; exact n rfl
  have nn : ∀ b, H b = none → b ≠ a := fun b q z => by subst z; rw [h] at q; cases q
  refine I.un ⟨fun b u q n _ _ => k b u (nn b n) q, fun b u q n _ _ => ⟨u.slots, k b u (nn b n) q⟩, fun b u q n _ => by rw [upd_ne (nn b n)]; exact n, fun b u q _ => ?_, fun b xs q => by rw [upd_ne (ne b _ q (nt xs))]; exact q, fun b ob u q => by rw [upd_ne (ne b _ q (nf ob u))]; exact q, fun b ps q => ⟨#[], by rw [upd_ne (ne b _ q (nb ps)), q]; simp⟩⟩ fun b u q => ?_
  · by_cases z : b = a
    · subst z; exact there
    · exact ⟨u, k b u z q⟩
  · by_cases z : b = a
    · subst z; rw [upd_same] at q; cases q; exact new
    · rw [upd_ne z] at q
      refine (I.hok b u q).stay (fun c v hc r => k c v ?_ r) (fun c r => by rw [upd_ne (ne c _ r (no b))]; exact r) fun c xs r => by rw [upd_ne (ne c _ r (nt xs))]; exact r
      rcases hc with rfl | hc
      · exact z
      · exact ne c _ hc (no b)
theorem Inv.xc {cls : Value} {d : Option Addr} (I : Inv X pins σ H s) (h : H e = some (XcO e cls d)) : ∃ t, s.heap.get? e = some (excObj cls t d) := (I.hok e _ h).1
/-- RivalError.__init__(self, ..): its arguments are kept -/
theorem xinit {y : Value} {Q : Value → Shared → Prop} {E : Value → Shared → Prop} (I : Inv X pins σ H s) (c : XCls X.K C R) (h : H e = some (XcO e (.ref C) none)) 
    (k : ∀ s', Inv X pins σ H s' → Q .none s') : wpAny (model X.prog X.w) X.A (call (.builtin "ValueError.__init__") [.ref e, y]) Q E s := by
  obtain ⟨t, hx⟩ := I.xc h
  have F := PySem.F.excBase_ValueError
  obtain ⟨nm, q, N, bs, sn, sub, ab, col, dd, k0, k1, k2, k3, k5, hK⟩ := c.obj
  have hC := I.kIn _ _ hK
  have T := PySem.W.tail_of_in I.kIn c.tail
  obtain ⟨hp, g, d, tk, os⟩ := s
  have hx : hp.get? e = some (excObj (.ref C) t none) := hx
  refine wpAny_call (codeAny_call_builtin F.init.plain F.initEntry (wpAny_check_init_subU F T hC hx rfl ?_))
  unfold Builtin.«BaseException.__init__»
  wp_walk
  show Q .none _
  have h1 : (hp.push { cls := .type "tuple", data := .seq #[y] }).get? e = some (excObj (.ref C) t none) := Heap.get?_push_of_some _ hx
  refine k _ ?_
  have := I.write (x := e) (e := e) (o := XcO e (.ref C) none) (h' := (hp.push { cls := .type "tuple", data := .seq #[y] }).update e (Obj.mapFields (·.setIfInBounds 0 (Value.ref hp.objs.size)))) (t' := tk) (by rw [h]; exact True.intro) (.inl rfl)
    (fun b u n q => (Heap.get?_update_ne _ _ _ _ n).trans (Heap.get?_push_of_some _ q)) ⟨_, Heap.get?_update_self _ h1 rfl⟩ (XcO.ok (t := hp.objs.size) (Heap.get?_update_self _ h1 rfl))
  rw [upd_eq h] at this
  exact this
/-- the class's own words for an exception's __init__: the name R, above it ValueError's -/
structure XInit (K : PySem.W.Frag) (R : Addr) : Prop where
  reads : PySem.W.readsIn K R (.type "type") = true
  finds : PySem.W.findCls K (.ref R) (.type "type") "__init__" = some (.val (.builtin "ValueError.__init__"))
  spec : PySem.W.specialIn K (.ref R) "__getattribute__" = some (some (.builtin "type.__getattribute__"))
/-- R.__init__(self, ..) -/
theorem pe_xinit {rn : Str} {p1 apos pos : Pos} {e0 : Expr} {es : List Expr} {t : TA} {pl : Sem Bool} (hg : Gl X rn) (hm : X.mg rn = some (.ref R)) (x : XInit X.K R) (ha : PA X (e0 :: es) t)
    (hdb : (rn == ("__debug__" : Str)) = false := by decide) (hst : starEach (e0 :: es) X.env = (false, eval e0 X.env) :: starEach es X.env := by rfl) (hpl : (backTo pos (starEach es X.env)).any (·.1) = false := by rfl)
    (ht : eval (.Call (.Attribute (.Name rn p1) "__init__" apos) (e0 :: es) [] pos) X.env = (do
      let ov ← eval (.Name rn p1) X.env
      standAt apos.atName
      let (f, first) ← holding [ov] (getMethod ov "__init__" pl)
      callWith pos f first (backTo pos (starEach (e0 :: es) X.env)) (backToKw pos (keywordEach [] X.env))) := by rfl) :
    PE X (.Call (.Attribute (.Name rn p1) "__init__" apos) (e0 :: es) [] pos) (fun σ H Q => t σ H fun vs H1 => ∃ e C y, vs = [.ref e, y] ∧ H1 e = some (XcO e (.ref C) none) ∧ (∃ R', XCls X.K C R') ∧ Q .non H1) := by
  intro pins s σ H Q I h
  refine PySem.W.methodCall_KW (pl := pl) (ld_glob I hg hm ?_ hdb) ht
  refine PySem.W.method_cls I.kIn x.spec (PySem.W.cls_value I.kIn x.reads x.finds rfl ?_)
  refine PyProof.Rows.callWith_builtin1 (thn (ha pos pins _ σ H _ (I.tok _) h) fun us s1 ⟨vs, H1, I1, r, e, C, y, ev, he, ⟨R', c⟩, q⟩ => ?_) hst hpl
  subst ev
  obtain ⟨u1, u2, rfl, r1, r2⟩ := vals2 r
  obtain rfl : u1 = Value.ref e := r1
  exact xinit I1 c he fun s' I' => ⟨.non, H1, I', rfl, q⟩
/-- self.f = v: the first one, another one -/
theorem xset_ok {f : Str} {y : V} {u : Value} {d : Option Addr} {Q : Unit → Shared → Prop} {E : Value → Shared → Prop} (I : Inv X pins σ H s) (c : XCls X.K C R) (hn : PySem.W.findIn X.K (.ref C) f = some none) (h : H e = some (XcO e (.ref C) d)) (ry : RelV y u)
    (k : (d = none ∧ ∀ dx s', H dx = none → dx ≠ e → Inv X pins σ (upd (upd H dx (.xd [(f, y)])) e (XcO e (.ref C) (some dx))) s' → Q () s') ∨ ∃ dx fs, d = some dx ∧ H dx = some (.xd fs) ∧ dx ≠ e ∧ fs.length < 1000 ∧ ∀ s', Inv X pins σ (upd H dx (.xd (putF f y fs))) s' → Q () s') :
    wpAny (model X.prog X.w) X.A (setAttr (.ref e) f u) Q E s := by
  obtain ⟨t, hx⟩ := I.xc h
  rcases k with ⟨rfl, k⟩ | ⟨dx, fs, rfl, hd, ne, hl, k⟩
  · refine xset_new I.kIn c hx hn fun h' x1 x2 x3 => ?_
    have hf : H s.heap.objs.size = none := I.hok.fresh (Nat.le_refl _)
    have ne : s.heap.objs.size ≠ e := Nat.ne_of_gt (Heap.lt_size hx)
    have nH : ∀ b o, s.heap.get? b = some o → b ≠ s.heap.objs.size := fun b o q => Nat.ne_of_lt (Heap.lt_size q)
    have at_ : ∀ b, b ≠ e → b ≠ s.heap.objs.size → (upd (upd H s.heap.objs.size (.xd [(f, y)])) e (XcO e (.ref C) (some s.heap.objs.size))) b = H b := fun b h1 h2 => by rw [upd_ne h1, upd_ne h2]
    have old : ∀ b o, H b = some o → b ≠ s.heap.objs.size := fun b o q => ne_of_none q hf
    refine k s.heap.objs.size _ hf ne (I.un (t' := s.toks + 2) ⟨fun b o q n _ _ => x3 b o (fun z => by rw [z, h] at n; cases n) q, fun b o q n _ _ => ⟨o.slots, x3 b o (fun z => by rw [z, h] at n; cases n) q⟩, fun b o q n _ => ?_, fun b o q _ => ?_, fun b xs q => ?_, fun b o xs q => ?_, fun b ps q => ⟨#[], ?_⟩⟩ fun b u' q => ?_)
    · rw [at_ b (fun z => by rw [z, h] at n; cases n) (nH b o q)]; exact n
    · by_cases z : b = e
      · exact ⟨_, by rw [z]; exact x1⟩
      · exact ⟨o, x3 b o z q⟩
    · rw [at_ b (fun z => by rw [z, h] at q; cases q) (old b _ q)]; exact q
    · rw [at_ b (fun z => by rw [z, h] at q; cases q) (old b _ q)]; exact q
    · rw [at_ b (fun z => by rw [z, h] at q; cases q) (old b _ q), q]; simp
    · by_cases z : b = e
      · subst z
        rw [upd_same] at q; cases q
        exact XcO.ok x1
      rw [upd_ne z] at q
      by_cases z2 : b = s.heap.objs.size
      · subst z2
        rw [upd_same] at q; cases q
        refine ⟨_, x2, fun g => ?_⟩
        by_cases hg : g = f
        · have : (g == f) = true := beq_iff_eq.mpr hg
          simp only [List.lookup, this, if_pos hg]; exact ry
        · have : (g == f) = false := beq_eq_false_iff_ne.mpr hg
          simp only [List.lookup, this, if_neg hg]; trivial
      · rw [upd_ne z2] at q
        refine (I.hok b u' q).stay (fun c v hc r => x3 c v ?_ r) (fun c r => ?_) fun c xs r => ?_
        · rcases hc with rfl | hc
          · exact z
          · rintro rfl; rw [h] at hc; cases hc
        · rw [at_ c (fun z => by rw [z, h] at r; cases r) (old c _ r)]; exact r
        · rw [at_ c (fun z => by rw [z, h] at r; cases r) (old c _ r)]; exact r
  · obtain ⟨mA, hA, hm⟩ := I.hok dx _ hd
    have wi : PySem.Within mA ((mA f).toList.map (fun _ => f) ++ fs.map (·.1)) := fun g hg => by
      refine List.mem_append_right _ ?_
      have := hm g
      cases hl : fs.lookup g with
      | none => rw [hl] at this; cases hmg : mA g with
        | none => exact absurd hmg hg
        | some z => rw [hmg] at this; exact this.elim
      | some z => exact List.mem_map.mpr ⟨(g, z), PySem.mem_of_lookup hl, rfl⟩
    refine xset_more I.kIn c hx hA hn wi ?_ fun h' x1 x2 => ?_
    · rw [List.length_append, List.length_map, List.length_map, sizeLine_eq]
      have : (mA f).toList.length ≤ 1 := by cases mA f <;> simp
      omega
    · refine k _ (I.put (t' := s.toks + 2) hd (by intro _ z; cases z) (by intro _ _ z; cases z) (by intro _ z; cases z) (by intro _ z; cases z) (fun b q n z => (x2.2 b n).trans z) ?_ ?_)
      · obtain ⟨o, _, _, e', _⟩ := x1; exact ⟨o, e'⟩
      · refine ⟨_, x1, fun g => ?_⟩
        rw [lookup_putF]
        by_cases q : g = f
        · rw [if_pos q, if_pos q]; exact ry
        · rw [if_neg q, if_neg q]; exact hm g
end
end L2

/-! raise C(..), C a class of one's own above ValueError with its own __init__. -/
namespace L2
open PySem PySem.Spec PyProof.Rows PySem.Calls

/-- what the __init__ of an exception's class promises: it keeps its arguments by their names -/
def spX (K : PySem.W.Frag) (fs : List Str) : Sp := fun vs H Q _ => ∃ e C R ys, vs = .ref e :: ys ∧ ys.length = fs.length ∧ H e = some (XcO e (.ref C) none) ∧ XCls K C R ∧ (∀ f ∈ fs, PySem.W.findIn K (.ref C) f = some none) ∧
  ∀ dx H', H dx = none → dx ≠ e → H' e = some (XcO e (.ref C) (some dx)) → H' dx = some (.xd (fs.zip ys)) → (∀ b, b ≠ e → b ≠ dx → H' b = H b) → Q .non H'
section
variable {X : Cx} {pins : List (Addr × Obj)} {σ : St} {H : Hp} {s : Shared}
/-- self.f = v -/
def tXset (K : PySem.W.Frag) (ta tv : TE) (f : Str) : TS := fun D σ H => tv σ H fun y H1 => ta σ H1 fun x H2 => ∃ e C R d, x = .ref e ∧ H2 e = some (XcO e (.ref C) d) ∧ XCls K C R ∧ PySem.W.findIn K (.ref C) f = some none ∧
  ((d = none ∧ ∀ dx, H2 dx = none → dx ≠ e → D.nx σ (upd (upd H2 dx (.xd [(f, y)])) e (XcO e (.ref C) (some dx)))) ∨ ∃ dx fs, d = some dx ∧ H2 dx = some (.xd fs) ∧ dx ≠ e ∧ fs.length < 1000 ∧ D.nx σ (upd H2 dx (.xd (putF f y fs))))
theorem ps_xset {o value : Expr} {f : Str} {pos' pos : Pos} {ta tv : TE} (ha : PE X o ta) (hv : PE X value tv) (hs : swapsWith value (some (.Attribute o f pos')) pos.line X.env = pure false) : PS X (.Assign [.Attribute o f pos'] value pos) (tXset X.K ta tv f) := by
  intro pins s σ H D I h
  refine plainObj_wpAny_Assign_Attribute (thn (hv pins s σ H _ I h) fun u s1 ⟨y, H1, I1, ry, q⟩ => thn (ha pins s1 σ H1 _ I1 q) fun ov s2 ⟨x, H2, I2, rx, e, C, R, d, ex, he, c, hn, k⟩ => ?_) hs
  subst ex
  obtain rfl : ov = Value.ref e := rx
  refine xset_ok I2 c hn he ry ?_
  rcases k with ⟨hd, k⟩ | ⟨dx, fs, hd, hx, ne, hl, k⟩
  · exact .inl ⟨hd, fun dx s3 h1 h2 I3 => ⟨σ, _, I3, k dx h1 h2⟩⟩
  · exact .inr ⟨dx, fs, hd, hx, ne, hl, fun s3 I3 => ⟨σ, _, I3, k⟩⟩
/-- a tracked record is forgotten -/
def dropH (H : Hp) (e : Addr) : Hp := fun b => if b = e then none else H b
theorem drop_ne {H : Hp} {e b : Addr} (h : b ≠ e) : dropH H e b = H b := if_neg h
theorem drop_same {H : Hp} {e : Addr} : dropH H e e = none := if_pos rfl
theorem Inv.drop {e : Addr} {φ : Heap → Prop} (I : Inv X pins σ H s) (h : H e = some (.ext φ)) (lo : X.s_0.heap.objs.size ≤ e) : Inv X pins σ (dropH H e) s := by
  have ne : ∀ b u, H b = some u → u ≠ .ext φ → b ≠ e := fun b u q n z => by subst z; rw [h] at q; cases q; exact n rfl
  have nn : ∀ b, H b = none → dropH H e b = none := fun b q => by unfold dropH; split <;> first | rfl | exact q
  have z := I.base
  refine ⟨I.ok, I.os, I.bare, ⟨z.keep, z.slot, fun b o q n hx => nn b (z.free b o q n hx), z.there, fun b xs q => ?_, fun b o u q => ?_, fun b ps q => ?_⟩, I.loc, I.cell, nn _ I.free, fun x c q => nn _ (I.freeC x c q), fun p hp => let ⟨a, b, r⟩ := I.pin p hp; ⟨a, nn _ b, r⟩, fun b u q => ?_, I.len⟩
  · have q' := z.tups b xs q
    rw [drop_ne (ne b _ q' (by intro z; cases z))]; exact q'
  · have q' := z.frzs b o u q
    rw [drop_ne (ne b _ q' (by intro z; cases z))]; exact q'
  · obtain ⟨more, q'⟩ := z.tbls b ps q
    exact ⟨more, by rw [drop_ne (ne b _ q' (by intro z; cases z))]; exact q'⟩
  · unfold dropH at q
    split at q
    · cases q
    · exact (I.hok b u q).stay (fun _ _ _ q => q) (fun c q => by rw [drop_ne (ne c _ q (by intro z; cases z))]; exact q) fun c xs q => by rw [drop_ne (ne c _ q (by intro z; cases z))]; exact q
/-- the statement raise, of an exception that was just made -/
theorem xraise {M : Model} {A : Around} {E : Value → Shared → Prop} {env : Env} {K : PySem.W.Frag} {C R : Addr} {x : Sem Value} {Q : Flow → Shared → Prop} (c : XCls K C R) (hh : A.handled = none)
    (h : wpAny M A x (fun v s1 => ∃ e t d, v = .ref e ∧ K.In s1.heap ∧ s1.heap.get? e = some (excObj (.ref C) t d) ∧ E (.ref e) s1) E s) : wpAny M A (raiseStmt env (some x) none) Q E s := by
  obtain ⟨nm, q, N, bs, sn, sub, ab, col, dd, k0, k1, k2, k3, k5, hK⟩ := c.obj
  have hcB : (Value.ref C :: Value.ref R :: bmV).contains (.type "BaseException") = true := by simp
  unfold raiseStmt
  refine wpAny_bind (wpAny_mono h (fun v s1 h1 => ?_) fun _ _ x => x)
  obtain ⟨e, t, d, rfl, hk, he, hE⟩ := h1
  have hC := hk _ _ hK
  obtain ⟨hp, g, dr, tk, os⟩ := s1
  unfold excObj at he
  repeat (first | wp_step | with_reducible refine wpAny_loadPart_at hC ?_ | with_reducible refine wpAny_loadPart_at he ?_ | (with_reducible refine wpAny_isSubtype_exc hC ?_; rw [hcB]))
  exact (wpAny_raiseNew_none hh hE)
/-- raise C(e, ..) -/
theorem ps_raise {W : XW} {k : Nat} {f C R : Addr} {fd : FuncData} {ps fs : List Str} {cn : Str} {np cpos pos : Pos} {e0 : Expr} {es : List Expr} {t : TA} (hcalm : X.calm = true) (F : FnOk X.prog X.w X.K X.mg X.base CX0 k f fd ps (spX X.K fs)) (hr : Room (k + 1) X.A) (c : XCls X.K C R)
    (hfs : ∀ f ∈ fs, PySem.W.findIn X.K (.ref C) f = some none) (hi : PySem.W.findIn X.K (.ref C) "__init__" = some (some (.ref f))) (hf : PySem.W.typeIn X.K (.ref f) = some (.type "function")) (hkp : PySem.W.keepIn X.K (.ref C) = true)
    (hg : Gl X cn) (hm : X.mg cn = some (.ref C)) (hb : Binds X.K fd ps []) (ha : PA X.nox (e0 :: es) t) (hlen : fs.length ≤ 16) (hdb : (cn == ("__debug__" : Str)) = false := by decide) (he : starEach (e0 :: es) X.env = (false, eval e0 X.env) :: starEach es X.env := by rfl) (hpl : (backTo cpos (starEach es X.env)).any (·.1) = false := by rfl) :
    PS (X.wish (Out X W)) (.Raise (some (.Call (.Name cn np) (e0 :: es) [] cpos)) none pos) (fun _ σ H => t σ H fun vs H1 => vs.length = fs.length ∧ ∀ dx, H1 dx = none → W (.ref C) dx σ (upd H1 dx (.xd (fs.zip vs)))) := by
  intro pins s σ H D I h
  have I0 := I.unwish
  show wpAny (model X.prog X.w) X.A _ _ (Out X W) s
  rw [arm_exec_Raise]
  refine wpAny_bind (wpAny_standAt (xraise c (I0.ok.hd hcalm) ?_))
  refine wpAny_bind (wpAny_mono (Q := fun v s1 => ∃ e t d, v = Value.ref e ∧ X.K.In s1.heap ∧ s1.heap.get? e = some (excObj (.ref C) t d) ∧ Out X W (.ref e) s1) (E := Out X W) ?_ (fun v s1 q => wpAny_bind (wpAny_standAt (wpAny_pure q))) fun _ _ z => z)
  show wpAny _ _ (eval (.Call (.Name cn np) (e0 :: es) [] cpos) X.env) _ _ _
  refine wpAny_Call_Name_kw (ld_glob I0 hg hm ?_ hdb)
  refine PySem.W.callWith_K (h₀ := X.base) I0.ok.mod.kin hkp (wpAny_mono (ha cpos pins s σ H _ (I0.wish _) h) (fun us s1 ⟨vs, H1, I1, r, hl, q⟩ => ?_) fun _ _ z => False.elim z) he hpl
  have I1 : Inv X pins σ H1 s1 := I1.unwish
  refine ⟨I1.kIn, ?_⟩
  obtain ⟨nm, qn, N, bs, sn, sub, ab, col, dd, k0, k1, k2, k3, k5, hK⟩ := c.obj
  have hul : us.length ≤ sizeLine := by
    rw [← r.length, hl]
    exact Nat.le_trans (Nat.le_trans hlen (by decide : 16 ≤ 1000)) (by decide)
  have T := PySem.W.tail_of_in I1.kIn c.tail
  have V := PySem.F.excBase_ValueError
  obtain ⟨hp, g, dr, tk, os⟩ := s1
  have hC : hp.get? C = _ := I1.kIn _ _ hK
  have k2' : ∀ b o, hp.get? b = some o → ((hp.push { cls := .type "tuple", data := .seq us.toArray }).push (excObj (.ref C) hp.objs.size none)).get? b = some o := fun b o q => Heap.get?_push_of_some _ (Heap.get?_push_of_some _ q)
  have hx : ((hp.push { cls := .type "tuple", data := .seq us.toArray }).push (excObj (.ref C) hp.objs.size none)).get? (hp.objs.size + 1) = some (excObj (.ref C) hp.objs.size none) := by heap_get
  have fr : H1 (hp.objs.size + 1) = none := I1.hok.fresh (Nat.le_succ _)
  have I2 : Inv X pins σ (upd H1 (hp.objs.size + 1) (XcO (hp.objs.size + 1) (.ref C) none)) ⟨(hp.push { cls := .type "tuple", data := .seq us.toArray }).push (excObj (.ref C) hp.objs.size none), g, dr, tk, os⟩ := I1.laid (t' := tk) k2' (Nat.le_succ _) (XcO.ok hx)
  have hsp : spX X.K fs (.ref (hp.objs.size + 1) :: vs) (upd H1 (hp.objs.size + 1) (XcO (hp.objs.size + 1) (.ref C) none)) (fun v H' => v = .non ∧ ∃ dx, H1 dx = none ∧ dx ≠ hp.objs.size + 1 ∧ H' (hp.objs.size + 1) = some (XcO (hp.objs.size + 1) (.ref C) (some dx)) ∧ H' dx = some (.xd (fs.zip vs)) ∧ ∀ b, b ≠ hp.objs.size + 1 → b ≠ dx → H' b = H1 b) (fun _ _ _ => False) :=
    ⟨_, C, R, vs, rfl, hl, upd_same, c, hfs, fun dx H' h1 h2 h3 h4 h5 => ⟨rfl, dx, by rw [upd_ne h2] at h1; exact h1, h2, h3, h4, fun b n1 n2 => (h5 b n1 n2).trans (upd_ne n1)⟩⟩
  have hl2 : (Value.ref (hp.objs.size + 1) :: us ++ []).length = ps.length := by
    have := F.len _ _ _ _ hsp
    rw [List.append_nil, List.length_cons, ← r.length]
    exact this
  have bn := hb _ (Value.ref (hp.objs.size + 1) :: us) I2.kIn hl2
  rw [List.append_nil] at bn
  refine wpAny_call (exc_call V (by decide) I1.kIn hC T hi hf hul (codeAny_mono (F.run _ X.stack _ _ ⟨.ref (hp.objs.size + 1) :: us, []⟩ (.ref (hp.objs.size + 1) :: us) (.ref (hp.objs.size + 1) :: vs) _ _ (hr.make C us []) (I2.env0.make C us []) bn (.cons rfl r) hsp) fun r s' hq => ?_))
  cases r with
  | error e => exact hq.elim
  | ok fl =>
    cases fl with
    | next => exact hq.elim
    | brk => exact hq.elim
    | cont => exact hq.elim
    | ret u =>
      obtain ⟨v, H', I3, rv, ev, dx, d0, ne, he, hd, hb'⟩ := I2.after hq
      subst ev
      obtain ⟨t, hx3⟩ := I3.xc he
      obtain ⟨a1, a2, a3, a4⟩ := I1.newer
      have lo : X.s_0.heap.objs.size ≤ hp.objs.size + 1 := Nat.le_trans a1 (Nat.le_succ _)
      have eH : dropH H' (hp.objs.size + 1) = upd H1 dx (.xd (fs.zip vs)) := by
        funext b
        by_cases z : b = hp.objs.size + 1
        · rw [z, drop_same, upd_ne (Ne.symm ne)]; exact fr.symm
        · rw [drop_ne z]
          by_cases z2 : b = dx
          · rw [z2, upd_same, hd]
          · rw [upd_ne z2]; exact hb' b z z2
      refine ⟨rv, _, t, some dx, rfl, I3.kIn, hx3, σ, dropH H' (hp.objs.size + 1), hp.objs.size, _, .ref C, dx, none, rfl, Fly.unpin ⟨I3.drop he lo, ⟨_, _, hx3, rfl, rfl, rfl, Nat.le_succ _, drop_same, rfl⟩, a1, a2, a3, a4⟩, .inl rfl, ?_⟩
      rw [eH]
      exact q dx d0
end
end L2

/-! try .. except C: .., C a class of one's own. -/
namespace L2
open PySem PySem.Spec PyProof.Rows PySem.Calls

abbrev Cx.pinned (X : Cx) (ps : List (Addr × Obj)) : Cx := { X with pn := X.pn ++ ps }
abbrev Cx.marked (X : Cx) (v : Value) : Cx := { X with A := X.A.mark (some v), calm := false }
theorem frames_mark {A : Around} {v : Option Value} : (A.mark v).frames = A.frames := rfl
section
variable {X : Cx} {pins : List (Addr × Obj)} {σ : St} {H : Hp} {s : Shared}
theorem Cx.Ok.pinned (ok : X.Ok) (ps : List (Addr × Obj)) : (X.pinned ps).Ok :=
  ⟨ok.mod, ok.kind, ok.glob, ok.blt, ok.above, ok.inj, ok.has, ok.cab, ok.hd, ok.frames, ok.stk, ok.exf, ok.bs, ok.bsz, ok.noex, ok.exfs, ok.funs, ok.frf⟩
theorem Cx.Ok.unpinned {ps : List (Addr × Obj)} (ok : (X.pinned ps).Ok) : X.Ok :=
  ⟨ok.mod, ok.kind, ok.glob, ok.blt, ok.above, ok.inj, ok.has, ok.cab, ok.hd, ok.frames, ok.stk, ok.exf, ok.bs, ok.bsz, ok.noex, ok.exfs, ok.funs, ok.frf⟩
theorem Cx.Ok.marked (ok : X.Ok) (v : Value) : (X.marked v).Ok :=
  ⟨ok.mod, ok.kind, ok.glob, ok.blt, ok.above, ok.inj, ok.has, ok.cab, (fun z => nomatch z), frames_mark.trans ok.frames, ok.stk, ok.exf, ok.bs, ok.bsz, ok.noex, ok.exfs, ok.funs, ok.frf⟩
theorem Inv.pinX (I : Inv X pins σ H s) : Inv (X.pinned pins) [] σ H s := ⟨I.ok.pinned pins, I.os, I.bare, I.base, I.loc, I.cell, I.free, I.freeC, fun p hp => I.pin p (by rw [List.append_nil] at hp; exact hp), I.hok, I.len⟩
theorem Inv.unpinX (I : Inv (X.pinned pins) [] σ H s) : Inv X pins σ H s := ⟨I.ok.unpinned, I.os, I.bare, I.base, I.loc, I.cell, I.free, I.freeC, fun p hp => I.pin p (by rw [List.append_nil]; exact hp), I.hok, I.len⟩
theorem Inv.marked (I : Inv X pins σ H s) (v : Value) : Inv (X.marked v) pins σ H s := ⟨I.ok.marked v, I.os, I.bare, I.base, I.loc, I.cell, I.free, I.freeC, I.pin, I.hok, I.len⟩
theorem Inv.unmarked {v : Value} (ok : X.Ok) (I : Inv (X.marked v) pins σ H s) : Inv X pins σ H s := ⟨ok, I.os, I.bare, I.base, I.loc, I.cell, I.free, I.freeC, I.pin, I.hok, I.len⟩
theorem SP.unpinned {D : Ends} {f : Flow} {s' : Shared} {E : Value → Shared → Prop} (h : SP ((X.pinned pins).wish E) [] D f s') : SP X pins D f s' := by
  cases f with
  | next => obtain ⟨σ', H', I, q⟩ := h; exact ⟨σ', H', I.unwish.unpinX, q⟩
  | brk => obtain ⟨σ', H', I, q⟩ := h; exact ⟨σ', H', I.unwish.unpinX, q⟩
  | cont => obtain ⟨σ', H', I, q⟩ := h; exact ⟨σ', H', I.unwish.unpinX, q⟩
  | ret u => obtain ⟨v, σ', H', I, r, q⟩ := h; exact ⟨v, σ', H', I.unwish.unpinX, r, q⟩
theorem SP.unmarked {D : Ends} {f : Flow} {s' : Shared} {v : Value} {E : Value → Shared → Prop} (ok : X.Ok) (h : SP ((X.marked v).wish E) pins D f s') : SP X pins D f s' := by
  cases f with
  | next => obtain ⟨σ', H', I, q⟩ := h; exact ⟨σ', H', Inv.unmarked ok I.unwish, q⟩
  | brk => obtain ⟨σ', H', I, q⟩ := h; exact ⟨σ', H', Inv.unmarked ok I.unwish, q⟩
  | cont => obtain ⟨σ', H', I, q⟩ := h; exact ⟨σ', H', Inv.unmarked ok I.unwish, q⟩
  | ret u => obtain ⟨v, σ', H', I, r, q⟩ := h; exact ⟨v, σ', H', Inv.unmarked ok I.unwish, r, q⟩
/-- does the exception's class stand below this one -/
theorem xmatch {M : Model} {A : Around} {E : Value → Shared → Prop} {K : PySem.W.Frag} {C Cc ea : Addr} {oe : Obj} {b : Bool} {Q : Bool → Shared → Prop} (hk : K.In s.heap) (he : s.heap.get? ea = some oe) (hc : oe.cls = .ref C) {dd : Option Addr} {cd : ClassData} {sl : Array (Option Value)} (hK : K.lookup Cc = some ⟨.type "type", dd, .cls cd, sl⟩) (hb : PySem.W.mroIn K Cc (.type "BaseException") = some true)
    (hm : PySem.W.mroIn K C (.ref Cc) = some b) (q : Q b s) : wpAny M A (excMatches (.ref ea) (.ref Cc)) Q E s := by
  have hC := hk _ _ hK
  have t1 : PySem.W.Looks M s.heap (typeOf (.ref Cc)) (.type "type") := (PySem.W.Looks.ld hC).andThen .now
  have t2 : PySem.W.Looks M s.heap (typeOf (.ref ea)) (.ref C) := by rw [← hc]; exact (PySem.W.Looks.ld he).andThen .now
  have t3 : PySem.W.Looks M s.heap (isSubtype (.ref Cc) (.type "BaseException")) true := PySem.W.looks_mroIn hk hb
  have t4 : PySem.W.Looks M s.heap (isSubtype (.ref C) (.ref Cc)) b := PySem.W.looks_mroIn hk hm
  have f1 := tc_notTuple
  have f2 := tc_sub
  obtain ⟨hp, g, d, t, os⟩ := s
  unfold excMatches isInstance isExcClass
  have t5 : PySem.W.Looks M hp (isInstance (.ref Cc) (.type "type")) true := t1.andThen (PySem.W.Looks.of_pure f2)
  have f3 : PySem.W.Looks M hp (isSubtype (.type "type") (.type "tuple")) false := PySem.W.Looks.of_pure f1
  refine wpAny_bind (wpAny_bind (t1.at (f3.at ?_)))
  refine wpAny_bind (wpAny_pure ?_)
  cases b with
  | true =>
    repeat (first | with_reducible refine wpAny_loadPart_at hC ?_ | lk | wp_step)
    exact q
  | false =>
    repeat (first | with_reducible refine wpAny_loadPart_at hC ?_ | lk | wp_step)
    exact q
/-- the class that a clause names -/
structure CCls (K : PySem.W.Frag) (Cc : Addr) : Prop where
  obj : ∃ dd cd sl, K.lookup Cc = some ⟨.type "type", dd, .cls cd, sl⟩
  be : PySem.W.mroIn K Cc (.type "BaseException") = some true
end
end L2

/-! try .. except C as n: .. -/
namespace L2
open PySem PySem.Spec PyProof.Rows PySem.Calls

theorem find_less {α : Type} (p : α → Bool) : ∀ (l : List α) (i : Nat), (∀ e, l[i]? = some e → p e = false) → (l.eraseIdx i).find? p = l.find? p
  | [], _, _ => rfl
  | a :: l, 0, h => by
    have : p a = false := h a rfl
    rw [List.eraseIdx_cons_zero, List.find?_cons, this]
  | a :: l, i + 1, h => by
    rw [List.eraseIdx_cons_succ, List.find?_cons, List.find?_cons, find_less p l i fun e q => h e q]
section
variable {M : Model} {A : Around} {E : Value → Shared → Prop} {s : Shared}
/-- a name that stands there goes: the others stay -/
theorem ns_goes {a : Addr} {m : Str → Option Value} {x : Str} {Q : Bool → Shared → Prop} (hn : s.heap.Ns a m) (hs : (m x).isSome = true) (k : ∀ h' m', h'.Ns a m' → (∀ y, y ≠ x → m' y = m y) → Heap.SameBut a s.heap h' → Q true { s with heap := h' }) : wpAny M A (nsDel a x) Q E s := by
  obtain ⟨⟨cl, d, dt, sl⟩, es, ep, ho, hd, hk, hm⟩ := id hn
  have hd : dt = .dict es ep := hd
  subst hd
  have at_ : ∃ i, es.findIdx? (·.key.isStr x) = some i := by
    cases hi : es.findIdx? (·.key.isStr x) with
    | some i => exact ⟨i, rfl⟩
    | none =>
      have q := hm x
      unfold nsFind at q
      rw [findBy_of_findIdx?, hi] at q
      have q : (none : Option Value) = m x := q
      rw [← q] at hs; cases hs
  obtain ⟨i, hi⟩ := at_
  have has : nsHas x ⟨cl, d, .dict es ep, sl⟩ = pure true := by
    rw [nsHas_eq]
    unfold nsHasByArray
    have : (es.any fun e => e.key.isStr x) = true := by
      obtain ⟨h1, h2, _⟩ := Array.findIdx?_eq_some_iff_getElem.mp hi
      rw [Array.any_eq_true]
      exact ⟨i, h1, h2⟩
    dsimp only
    rw [if_pos this]
  unfold nsDel
  refine wpAny_bind (wpAny_loadPart ho ?_)
  rw [has]
  refine wpAny_bind (wpAny_pure (wpAny_bind (wpAny_updatePart ho (wpAny_pure ?_))))
  have ed : Obj.dropName x ⟨cl, d, .dict es ep, sl⟩ = ⟨cl, d, .dict (es.eraseIdxIfInBounds i) (ep + 1), sl⟩ := by
    rw [Obj.dropName_eq]
    unfold Obj.dropNameByArray
    dsimp only
    rw [hi]
  have g := Heap.get?_update_self (Obj.dropName x) ho (by rw [ed]; rfl)
  rw [ed] at g
  refine k _ (nsFind (es.eraseIdxIfInBounds i)) ⟨_, _, _, g, rfl, hk.erase i, fun _ => rfl⟩ (fun y hy => ?_) (Heap.SameBut.update ..)
  rw [← hm y]
  obtain ⟨l⟩ := es
  unfold nsFind findBy
  rw [List.eraseIdxIfInBounds_toArray, List.find?_toArray, List.find?_toArray]
  congr 1
  refine find_less _ l i fun e he => ?_
  obtain ⟨h1, h2, _⟩ := Array.findIdx?_eq_some_iff_getElem.mp hi
  have h3 : l[i] = e := (List.getElem?_eq_some_iff.mp he).2
  have h4 : e.key.isStr x = true := by rw [← h3]; exact h2
  obtain ⟨n, t, hkey⟩ := hk e (List.mem_toArray.mpr (List.mem_of_getElem? he))
  rw [hkey] at h4 ⊢
  have e1 : n = x := by simpa [Value.isStr] using h4
  subst e1
  simpa [Value.isStr] using fun z : n = y => hy z.symm
end
section
variable {X : Cx} {pins : List (Addr × Obj)} {σ : St} {H : Hp} {s : Shared}
/-- a local name goes -/
theorem goes_ok {M : Model} {A : Around} {E : Value → Shared → Prop} {i : Nat} {n : Str} {pos : Pos} {Q : Unit → Shared → Prop} (I : Inv X pins σ H s) (hN : X.N.Nodup) (hi : X.N[i]? = some n) (hl : X.env.scope.names.lookup n = some .local)
    (k : ∀ s', Inv X pins (σ.set i none) H s' → Q () s') : wpAny M A (do bindName X.env n .none; unbindBehindTheSuite X.env n pos) Q E s := by
  refine wpAny_bind (wpAny_bindName (store_ok (i := i) (v := .non) I hN hi (.inl hl) rfl (fun s1 I1 => ?_) (.inr hl)))
  have hkd : X.env.kindOf n = some .local := hl
  have hil : i < σ.length := by rw [I.len]; exact (List.getElem?_eq_some_iff.mp hi).1
  obtain ⟨m, hn, hm⟩ := I1.loc
  have hs : (m n).isSome = true := by
    obtain ⟨u, _, z⟩ := hm i n .non hi (List.getElem?_set_self hil) (.inl hl)
    rcases z with ⟨_, z⟩ | ⟨z, _⟩
    · rw [z]; rfl
    · rcases z with z | z <;> (rw [hkd] at z; cases z)
  have hcl : (X.env.scope.kind == .class || (X.env.scope.kind == .module && X.env.locals != X.env.globals)) = false := by rw [I.ok.kind]; rfl
  unfold unbindBehindTheSuite
  refine wpAny_onRaise ?_
  unfold unbindName
  refine wpAny_bind (wpAny_point (wpAny_bind ?_))
  unfold deleteName
  simp only [hkd, hcl]
  rw [if_neg (by decide)]
  refine wpAny_bind (ns_goes hn hs fun h' m' n' hm' sb => ?_)
  simp only [Bool.not_true, Bool.false_eq_true, if_false]
  refine wpAny_pure (wpAny_point (k _ ?_))
  have off : ∀ b, b ≠ X.env.locals → h'.get? b = s1.heap.get? b := fun b hb => sb.2 b hb
  have neL : ∀ b o, X.s_0.heap.get? b = some o → b ≠ X.env.locals := fun b o e => Nat.ne_of_lt (Nat.lt_of_lt_of_le (Heap.lt_size e) I.ok.above)
  have neH : ∀ b o, H b = some o → b ≠ X.env.locals := fun b o e => ne_of_none e I.free
  have z := I1.base
  have z : Un X.fs X.ex X.H_0 H X.s_0.heap h' := ⟨fun b o e n' hf hx => (off b (neL b o e)).trans (z.keep b o e n' hf hx), fun b o e n' hf hx => by
    obtain ⟨sl, q⟩ := z.slot b o e n' hf hx
    exact ⟨sl, (off b (neL b o e)).trans q⟩, z.free, fun b o e hx => by
    obtain ⟨o', q⟩ := z.there b o e hx
    exact ⟨o', (off b (neL b o e)).trans q⟩, z.tups, z.frzs, z.tbls⟩
  refine ⟨I.ok, I1.os, I1.bare, z, ⟨m', n', fun j y v hj hv hvis => ?_⟩, fun y c e => ?_, I1.free, I1.freeC, fun p hp => ?_, fun b u e => (I1.hok b u e).stay (fun c v hc q => (off c ?_).trans q) (fun _ q => q) fun _ _ q => q, ?_⟩
  · by_cases hji : j = i
    · subst hji
      rw [List.getElem?_set_self hil] at hv; cases hv
    · have hv : (σ.set i (some V.non))[j]? = some (some v) := by
        rw [List.getElem?_set_ne (Ne.symm hji)] at hv ⊢; exact hv
      obtain ⟨u, r, l⟩ := hm j y v hj hv hvis
      have hy : y ≠ n := fun e => by
        subst e
        have h1 := (List.getElem?_eq_some_iff.mp hj)
        have h2 := (List.getElem?_eq_some_iff.mp hi)
        obtain ⟨p1, q1⟩ := h1
        obtain ⟨p2, q2⟩ := h2
        exact hji ((List.getElem_inj hN).mp (q1.trans q2.symm))
      refine ⟨u, r, ?_⟩
      rcases l with ⟨k1, k2⟩ | ⟨k1, c, k2, o, k3, k4⟩
      · exact .inl ⟨k1, by rw [hm' y hy]; exact k2⟩
      · exact .inr ⟨k1, c, k2, o, (off c (I1.cne y c k2)).trans k3, k4⟩
  · obtain ⟨v, o, ho, hd⟩ := I1.cell y c e
    exact ⟨v, o, (off c (I1.cne y c e)).trans ho, hd⟩
  · obtain ⟨p1, p2, p3, p4⟩ := I1.pin p hp
    exact ⟨(off p.1 p3).trans p1, p2, p3, p4⟩
  · rcases hc with rfl | hc
    · exact neH _ _ e
    · exact neH _ _ hc
  · rw [List.length_set]; exact I.len
/-- a clause's end, where the name goes -/
def goesE (i : Nat) (D : Ends) : Ends := { nx := fun σ H => D.nx (σ.set i none) H, rt := D.rt, bk := fun σ H => D.bk (σ.set i none) H, ct := fun σ H => D.ct (σ.set i none) H }
theorem Fly.seen {lo ea dx : Addr} {cls : Value} {fl : Option Value} (f : Fly X pins σ H s lo ea cls dx fl) : Inv X pins σ (upd H ea (XeO ea cls dx)) s := by
  have I := f.inv
  obtain ⟨oe, vs, he, hc, hx, hd, hlo, hn, _⟩ := f.ex
  have ne : ∀ b u, H b = some u → b ≠ ea := fun b u q => ne_of_none q hn
  refine I.step (h' := s.heap) (g' := s.gens) (d' := s.drawn) (t' := s.toks) (ch := [ea]) (fun b hb => ?_) (fun b o _ _ _ e _ => e) (fun b o _ _ _ e _ => ⟨o.slots, e⟩) (fun b o hb _ n => ?_) (fun b o _ e => ⟨o, e⟩) (fun b xs q => by rw [upd_ne (ne b _ q)]; exact q) (fun b o u q => by rw [upd_ne (ne b _ q)]; exact q) (fun b ps q => ⟨#[], by rw [upd_ne (ne b _ q), q]; simp⟩) (fun _ h => h) (fun b u q => ?_) I.bare
  · rw [List.mem_singleton.mp hb]
    exact ⟨.inr (Nat.le_trans f.lo0 hlo), Nat.ne_of_gt (Nat.lt_of_lt_of_le f.lol hlo), fun y c e => Nat.ne_of_lt (Nat.lt_of_lt_of_le (f.loc y c e) hlo), fun p hp => Nat.ne_of_lt (Nat.lt_of_lt_of_le (f.lop p hp) hlo)⟩
  · rw [upd_ne (fun z => hb (by rw [z]; exact List.mem_singleton_self _))]; exact n
  · by_cases z : b = ea
    · subst z
      rw [upd_same] at q; cases q
      exact ⟨⟨oe, vs, he, hc, hx, hd⟩, ⟨oe, he⟩, fun h1 h2 ⟨oe, vs, he, r⟩ k => ⟨oe, vs, k _ he, r⟩⟩
    · rw [upd_ne z] at q
      exact (I.hok b u q).stay (fun _ _ _ q => q) (fun c q => by rw [upd_ne (ne c _ q)]; exact q) fun c xs q => by rw [upd_ne (ne c _ q)]; exact q
/-- try .. except C as n: .. -/
theorem ps_tryAs {body suite : List Stmt} {b0 : Stmt} {cn n : Str} {np hpos pos : Pos} {tb : XW → TS} {ts : TS} {Cc : Addr} {i : Nat} (o : Own X) (hN : X.N.Nodup) (hi : X.N[i]? = some n) (hl : X.env.scope.names.lookup n = some .local)
    (hb : ∀ (ps : List (Addr × Obj)) (W : XW), PSs ((X.pinned ps).wish (Out (X.pinned ps) W)) body (tb W)) (hs : ∀ v, PSs (X.marked v).nox (b0 :: suite) ts)
    (hg : Gl X cn) (hm : X.mg cn = some (.ref Cc)) (hc : CCls X.K Cc) (hdb : (cn == ("__debug__" : Str)) = false := by decide) :
    PS X (.Try body [.ExceptHandler (some (.Name cn np)) (some n) (b0 :: suite) hpos] [] [] pos) (fun D σ H => tb (fun cls dx σ' H' => (∃ C, cls = .ref C ∧ PySem.W.mroIn X.K C (.ref Cc) = some true) ∧ ∀ ea, H' ea = none → ts (goesE i D) (σ'.set i (some (.ref ea))) (upd H' ea (XeO ea cls dx))) D σ H) := by
  intro pins s σ H D I h
  refine wpAny_Try_except (wpAny_mono (hb pins _ [] s σ H D (I.pinX.wish _) h) (fun g s1 q => ?_) fun z s1 q => ?_)
  · have q' := q.unpinned
    cases g with
    | next => exact wpAny_execs_nil q'
    | brk => exact q'
    | cont => exact q'
    | ret u => exact q'
  · obtain ⟨σ1, H1, lo, ea, cls, dx, fl, rfl, f, hl', ⟨C, rfl, hmro⟩, hw⟩ := q
    have I1 := f.inv
    have hfr : X.A.frames = some (X.env :: X.outer) := by rw [← o.1]; exact I.ok.frames
    have hl1 : s1.heap.FunFrames X.base (X.env :: X.outer) := by rw [← o.1]; exact I1.stack
    refine note_ok (H := H1) (fun b hb => I1.hok.fresh hb) hfr hl1 o.2 f.ex hl' fun h1 n1 x1 => ?_
    rw [← o.1] at n1
    have f1 := f.nt n1 x1
    refine flight_ok (fs := frs X.stack) (g := .none) (o := none) rfl x1 fun h2 n2 x2 => ?_
    have f2 := f1.nt n2 x2
    obtain ⟨dd, cd, sl, hK⟩ := hc.obj
    obtain ⟨oe, vs, he, hcl, _⟩ := id x2
    refine wpAny_handleBy_cons (codeAny_handlers_test ?_) (by intro q; cases q)
    refine ld_glob (X := X.marked (.ref ea)) (f2.inv.unpinX.marked _) hg hm (xmatch f2.inv.kIn he hcl hK hc.be hmro ?_) hdb
    refine codeAny_handlers_suite_as (flight_ok (fs := frs X.stack) (g := .none) (o := none) rfl x2 fun h3 n3 x3 => ?_)
    have f3 := f2.nt n3 x3
    have nn : H1 ea = none := let ⟨_, _, _, _, _, _, _, hn, _⟩ := x3; hn
    have I3 : Inv X pins σ1 (upd H1 ea (XeO ea (.ref C) dx)) _ := f3.seen.unpinX
    refine store_ok (X := X) (i := i) (v := .ref ea) I3 hN hi (.inl hl) rfl (fun s4 I4 => ?_) (.inr hl)
    refine wpAny_mono (hs (.ref ea) pins _ _ _ (goesE i D) ((I4.marked _).wish _) (hw ea nn)) (fun g s5 q => ?_) fun _ _ z => False.elim z
    have q' := SP.unmarked I.ok q
    cases g with
    | next => obtain ⟨σ', H', I', q⟩ := q'; exact goes_ok I' hN hi hl fun s6 I6 => ⟨_, _, I6, q⟩
    | brk => obtain ⟨σ', H', I', q⟩ := q'; exact goes_ok I' hN hi hl fun s6 I6 => ⟨_, _, I6, q⟩
    | cont => obtain ⟨σ', H', I', q⟩ := q'; exact goes_ok I' hN hi hl fun s6 I6 => ⟨_, _, I6, q⟩
    | ret u => obtain ⟨v, σ', H', I', r, q⟩ := q'; exact goes_ok I' hN hi hl fun s6 I6 => ⟨v, _, _, I6, r, q⟩
end
end L2

/-! EXCEPTIONS over plain values: defs that raise, raise, try. -/
namespace M
open PySem PySem.Spec PyProof.Rows L2
theorem CodeAt.on {T0 T1 : Tabs} (o : On T1 T0) {K : PySem.W.Frag} {cd : Value} (c : @CodeAt T0 K cd) : @CodeAt T1 K cd := by
  obtain ⟨a, P, h1, h2, h3⟩ := @CodeAt.ex T0 _ _ c
  exact @CodeAt.mk T1 K cd ⟨a, P, h1, h2, by rw [o.t]; exact h3⟩
theorem LD.up {T0 T1 : Tabs} {K : PySem.W.Frag} {ι : List Addr} {H : Hp} {P : PD} {D : Ends} (o : On T1 T0) (l : @LD T0 K ι H P D) : @LD T1 K ι H P D :=
  @LD.mk T1 K ι H P D (fun ι' H' S' fr' σ' f s => @LD.nx T0 _ _ _ _ _ l ι' H' S' fr' σ' f (s.down o)) (fun ι' H' S' p v f s => @LD.rt T0 _ _ _ _ _ l ι' H' S' p v f (s.down o)) (fun ι' H' S' fr' σ' f s => @LD.bk T0 _ _ _ _ _ l ι' H' S' fr' σ' f (s.down o)) (fun ι' H' S' fr' σ' f s => @LD.ct T0 _ _ _ _ _ l ι' H' S' fr' σ' f (s.down o))
variable {T0 : Tabs} [T1 : Tabs]

/-- what is wanted of an exception within a body; behind a call -/
abbrev XP := Str → List (Str × PV) → Fr → Sto → Prop
abbrev XPs := Str → List (Str × PV) → Sto → Prop
abbrev PSpX := List PV → Sto → Post → XPs → Prop
/-- how the class and the record of an exception lie -/
structure RX (K : PySem.W.Frag) (ι : List Addr) (H : Hp) (c : Str) (fs : List (Str × PV)) (cls : Value) (dx : Addr) : Prop where
  cl : ∃ C, PySem.W.nsIn K mainGlobals c = some (some (.ref C)) ∧ cls = .ref C
  rcd : ∃ ws, H dx = some (.xd ws) ∧ RKs K ι H fs ws
  out : dx ∉ ι
def liftSpX (K : PySem.W.Frag) (spx : PSpX) : Sp := fun vs H Q E => ∃ (ι : List Addr) (S : Sto) (ps : List PV) (Qp : Post) (Xp : XPs), RS K ι H S ∧ RVs K ι H ps vs ∧ spx ps S Qp Xp ∧
  (∀ (ι' : List Addr) (H' : Hp) (S' : Sto) (p : PV) (v : V), Fut K ι H ι' H' → RS K ι' H' S' → RV K ι' H' p v → Qp p S' → Q v H') ∧
  ∀ (ι' : List Addr) (H' : Hp) (S' : Sto) (c : Str) (fs : List (Str × PV)) (cls : Value) (dx : Addr), Fut K ι H ι' H' → RS K ι' H' S' → RX K ι' H' c fs cls dx → Xp c fs S' → E cls (some dx) H'
/-- the name x is a def that keeps spx, and may raise -/
structure FnX (P : Program) (w : World) (K : PySem.W.Frag) (mg : Str → Option Value) (base : Heap) (k : Nat) (x : Str) (spx : PSpX) : Prop where
  ex : ∃ (f : Addr) (fd : FuncData) (ps : List Str), FnOk P w K mg base (CX1 P w) k f fd ps (liftSpX K spx) ∧ mg x = some (.ref f) ∧ PySem.W.keepIn K (.ref f) = true ∧ Binds K fd ps []
theorem fnX_mk {P : Program} {w : World} {K : PySem.W.Frag} {mg : Str → Option Value} {base : Heap} {x : Str} {f : Addr} {fd : FuncData} {ps : List Str} {k : Nat} {spx : PSpX} (h : FnOk P w K mg base (CX1 P w) k f fd ps (liftSpX K spx)) (hm : mg x = some (.ref f)) (hk : PySem.W.keepIn K (.ref f) = true) (hb : Binds K fd ps []) :
    FnX P w K mg base k x spx := ⟨f, fd, ps, h, hm, hk, hb⟩
/-- what W wants of an exception, plainly -/
def XLnk (K : PySem.W.Frag) (W : XW) (xq : XP) : Prop := ∀ (ι : List Addr) (H : Hp) (S : Sto) (fr : Fr) (σ : L2.St) (c : Str) (fs : List (Str × PV)) (cls : Value) (dx : Addr), RF K ι H fr σ → RS K ι H S → RX K ι H c fs cls dx → xq c fs fr S → W cls dx σ H

/-! ### the call of a def that may raise -/
def wCallX (spx : PSpX) (xq : XP) (g : WA) : WE := fun fr S Q => g fr S fun vs S1 => spx vs S1 Q fun c fs S2 => xq c fs fr S2
section
variable {X : Cx} {W : XW} {xq : XP} {x : Str} {p pos : Pos} {e : Expr} {es : List Expr} {g : WA} {spx : PSpX} {k : Nat}
theorem j_callX [o : On T1 T0] (L : @XLnk T1 X.K W xq) (F : @FnX T0 X.prog X.w X.K X.mg X.base k x spx) (hr : Room k X.A) (ha : @JA T1 X.nox (e :: es) g) (hg : Gl X x := by rfl)
    (hdb : (x == ("__debug__" : Str)) = false := by decide) (he : starEach (e :: es) X.env = (false, eval e X.env) :: starEach es X.env := by rfl) (hpl : (backTo pos (starEach es X.env)).any (·.1) = false := by rfl) :
    @JE T1 (X.wish (Out X W)) (.Call (.Name x p) (e :: es) [] pos) (wCallX spx xq g) := by
  obtain ⟨f, fd, ps, h1, h2, h3, h4⟩ := @FnX.ex T0 _ _ _ _ _ _ _ _ F
  refine ⟨pe_imp (pe_callX h1 hr hg h2 h3 h4 .nil ha.pa hdb he hpl) fun σ H Q ⟨ι, fr, S, Qp, hF, hS, hf, kk⟩ => ⟨ι, fr, S, _, hF, hS, hf, fun ι1 H1 S1 xs vs f1 s1 r1 q1 => ?_⟩⟩
  exact ⟨ι1, S1, xs, Qp, _, s1.down o, by rw [List.append_nil]; exact r1, q1, fun ι' H' S' p v f2 s2 => kk ι' H' S' p v (f1.trans f2) (RS.up o s1 f2 s2),
    fun ι' H' S' c fs cls dx f2 s2 rx q => ⟨dx, rfl, L ι' H' S' fr σ c fs cls dx (hF.fut (f1.trans f2)) (RS.up o s1 f2 s2) rx q⟩⟩
end

/-! ### raise -/
def wRaise (xq : XP) (c : Str) (fs : List Str) (g : WA) : WS := fun _ fr S => g fr S fun vs S1 => vs.length = fs.length ∧ xq c (fs.zip vs) fr S1
/-- the name c is a class of exceptions that keep fs -/
structure XMk (P : Program) (w : World) (K : PySem.W.Frag) (mg : Str → Option Value) (base : Heap) (c : Str) (fs : List Str) : Prop where
  ex : ∃ (f C R : Addr) (fd : FuncData) (ps : List Str), FnOk P w K mg base CX0 1 f fd ps (spX K fs) ∧ XCls K C R ∧ (∀ f ∈ fs, PySem.W.findIn K (.ref C) f = some none) ∧ PySem.W.findIn K (.ref C) "__init__" = some (some (.ref f)) ∧
    PySem.W.typeIn K (.ref f) = some (.type "function") ∧ PySem.W.keepIn K (.ref C) = true ∧ PySem.W.nsIn K mainGlobals c = some (some (.ref C)) ∧ mg c = some (.ref C) ∧ Binds K fd ps [] ∧ fs.length ≤ 16
theorem RVs.zip {K : PySem.W.Frag} {ι : List Addr} {H : Hp} : ∀ (fs : List Str) {ps : List PV} {vs : List V}, RVs K ι H ps vs → RKs K ι H (fs.zip ps) (fs.zip vs)
  | [], _, _, _ => .nil
  | _ :: _, _, _, .nil => .nil
  | _ :: fs, _, _, .cons r t => .cons r (RVs.zip fs t)
section
variable {X : Cx} {W : XW} {xq : XP} {c : Str} {np cpos pos : Pos} {e : Expr} {es : List Expr} {g : WA} {fs : List Str}
theorem js_raise (L : @XLnk T1 X.K W xq) (Mk : XMk X.prog X.w X.K X.mg X.base c fs) (hr : Room 2 X.A) (ha : @JA T1 X.nox (e :: es) g) (hcalm : X.calm = true := by rfl) (hg : Gl X c := by rfl)
    (hdb : (c == ("__debug__" : Str)) = false := by decide) (he : starEach (e :: es) X.env = (false, eval e X.env) :: starEach es X.env := by rfl) (hpl : (backTo cpos (starEach es X.env)).any (·.1) = false := by rfl) :
    @JS T1 (X.wish (Out X W)) (.Raise (some (.Call (.Name c np) (e :: es) [] cpos)) none pos) (wRaise xq c fs g) := by
  obtain ⟨f, C, R, fd, ps, h1, h2, h3, h4, h5, h6, h7, h8, h9, h10⟩ := Mk.ex
  refine ⟨ps_imp (ps_raise hcalm h1 hr h2 h3 h4 h5 h6 hg h8 h9 ha.pa h10 hdb he hpl) fun D σ H ⟨ι, fr, S, P, hF, hS, h, l⟩ => ⟨ι, fr, S, _, hF, hS, h, fun ι1 H1 S1 xs vs f1 s1 r1 ⟨hl, q⟩ => ⟨by rw [← r1.length]; exact hl, fun dx hd => ?_⟩⟩⟩
  have f2 : Fut X.K ι1 H1 ι1 (upd H1 dx (.xd (fs.zip vs))) := fut_new hd
  exact L ι1 _ S1 fr σ c _ (.ref C) dx (hF.fut (f1.trans f2)) (s1.new hd) ⟨⟨C, h7, rfl⟩, ⟨_, upd_same, (r1.fut f2).zip fs⟩, s1.fresh hd⟩ q
end

/-! ### try -/
/-- the name cn is a class that catches the classes of ok -/
structure XSub (K : PySem.W.Frag) (mg : Str → Option Value) (cn : Str) (ok : Str → Prop) : Prop where
  ex : ∃ Cc, mg cn = some (.ref Cc) ∧ CCls K Cc ∧ ∀ c, ok c → ∀ C, PySem.W.nsIn K mainGlobals c = some (some (.ref C)) → PySem.W.mroIn K C (.ref Cc) = some true
def goesP (i : Nat) (D : PD) : PD := { nx := fun fr S => D.nx (fr.set i none) S, rt := D.rt, bk := fun fr S => D.bk (fr.set i none) S, ct := fun fr S => D.ct (fr.set i none) S }
def wTryAs (ok : Str → Prop) (i : Nat) (b : XP → WS) (h : WS) : WS := fun D fr S => b (fun c fs fr1 S1 => ok c ∧ h (goesP i D) (fr1.set i (some (.ref S1.length))) (S1 ++ [.exc c fs])) D fr S
/-- what has been true since a try's entry -/
@[reducible] def sinceT (T1 : Tabs) (ι : List Addr) (H : Hp) : Tabs := ⟨T1.T, fun K ι' H' => T1.since K ι' H' ∧ Fut K ι H ι' H', fun h f => ⟨T1.mono h.1 f, h.2.trans f⟩⟩
theorem sinceT_on {ι : List Addr} {H : Hp} : On (sinceT T1 ι H) T1 := ⟨rfl, fun h => h.1⟩
theorem RS.begin {K : PySem.W.Frag} {ι : List Addr} {H : Hp} {S : Sto} (r : @RS T1 K ι H S) : @RS (sinceT T1 ι H) K ι H S := @RS.mk (sinceT T1 ι H) K ι H S r.len r.nd r.obj r.tab ⟨r.si, .refl⟩
section
variable {X : Cx} {body suite : List Stmt} {b0 : Stmt} {cn n : Str} {np hpos pos : Pos} {ok : Str → Prop} {b : XP → WS} {h : WS}
theorem js_tryAs (i : Nat) (hN : X.N.Nodup) (cs : XSub X.K X.mg cn ok) (hb : ∀ (ps : List (Addr × Obj)) (W : XW) (T2 : Tabs) (o2 : On T2 T1) (xq : XP), @XLnk T2 X.K W xq → @JSs T2 ((X.pinned ps).wish (Out (X.pinned ps) W)) body (b xq)) (hs : ∀ v, @JSs T1 (X.marked v).nox (b0 :: suite) h)
    (hi : X.N[i]? = some n := by rfl) (hl : X.env.scope.names.lookup n = some .local := by rfl) (ow : Own X := by exact ⟨rfl, rfl⟩) (hg : Gl X cn := by rfl) (hdb : (cn == ("__debug__" : Str)) = false := by decide) : @JS T1 X (.Try body [.ExceptHandler (some (.Name cn np)) (some n) (b0 :: suite) hpos] [] [] pos) (wTryAs ok i b h) := by
  obtain ⟨Cc, hm, hc, hsub⟩ := cs.ex
  refine ⟨ps_imp (ps_tryAs (ts := tS X.K h) (tb := fun W D σ H => ∃ (T2 : Tabs) (_ : On T2 T1) (xq : XP), @XLnk T2 X.K W xq ∧ @tS T2 X.K (b xq) D σ H) ow hN hi hl (fun ps W pins s σ H D I ⟨T2, o2, xq, L, hh⟩ => (@JSs.pss T2 _ _ _ (hb ps W T2 o2 xq L)) pins s σ H D I hh) (fun v => (hs v).pss) hg hm hc hdb) fun D σ H ⟨ι, fr, S, P, hF, hS, hf, l⟩ => ?_⟩
  refine ⟨sinceT T1 ι H, sinceT_on, _, ?_, ι, fr, S, P, hF, RS.begin hS, hf, LD.up sinceT_on l⟩
  intro ι' H' S' fr' σ' c fs cls dx hF' s' rx ⟨hok, q⟩
  obtain ⟨C, hC, rfl⟩ := rx.cl
  obtain ⟨ws, hd, rk⟩ := rx.rcd
  have f : Fut X.K ι H ι' H' := (@RS.si (sinceT T1 ι H) _ _ _ _ s').2
  have s1 : @RS T1 X.K ι' H' S' := RS.down sinceT_on s'
  refine ⟨⟨C, rfl, hsub c hok C hC⟩, fun ea hn => ?_⟩
  have g : Fut X.K ι' H' (ι' ++ [ea]) (upd H' ea (XeO ea (.ref C) dx)) := fut_lay hn
  obtain ⟨h1, h2⟩ := g.hid dx (.xd ws) True.intro rx.out hd
  refine ⟨ι' ++ [ea], _, _, goesP i P, (hF'.fut g).set i (.ref (s1.last ea)), s1.lay (m := .exc c fs) hn ⟨C, dx, ws, hC, upd_same, h1, h2, rk.fut g⟩, q, ?_⟩
  have fg := f.trans g
  exact ⟨fun ι2 H2 S2 fr2 σ2 f2 s2 F2 q2 => l.nx ι2 H2 S2 _ _ (fg.trans f2) s2 (F2.none i) q2, fun ι2 H2 S2 p v f2 s2 r2 q2 => l.rt ι2 H2 S2 p v (fg.trans f2) s2 r2 q2,
    fun ι2 H2 S2 fr2 σ2 f2 s2 F2 q2 => l.bk ι2 H2 S2 _ _ (fg.trans f2) s2 (F2.none i) q2, fun ι2 H2 S2 fr2 σ2 f2 s2 F2 q2 => l.ct ι2 H2 S2 _ _ (fg.trans f2) s2 (F2.none i) q2⟩
end

/-! ### a def that may raise keeps what it promises -/
theorem pss_wish {X : Cx} {E : Value → Shared → Prop} {st : List Stmt} {t : TS} (h : PSs (X.wish E) st t) (i : ∀ e s, E e s → X.xe e s) : PSs X st t := fun pins s σ H D I hw =>
  wpAny_mono (h pins s σ H D (I.wish _) hw) (fun _ _ q => q.unwish) fun e s z => i e s z
theorem def_okX {P : Program} {w : World} {K : PySem.W.Frag} {mg : Str → Option Value} {base : Heap} {x qual : Str} {st : Stmt} {f : Addr} {fd : FuncData} {N ps : List Str} {k : Nat} {spx : PSpX} (F : Fun K x qual st f fd) (S : FnScope N ps (defScope st)) (C : Value → Prop) (hcd : C fd.code)
    (len : ∀ vs S Q E, spx vs S Q E → vs.length = ps.length)
    (hbody : ∃ ws : XP → WS, (∀ (cdv : Value) (A : Around) (outer : List Env) (s : Shared) (H : Hp) (E : XK), C cdv → Room k (A.deeper (envOfC qual (defScope st) s.heap.objs.size f cdv)) → ∀ (W : XW) (T2 : Tabs) (o2 : On T2 T1) (xq : XP), @XLnk T2 K W xq →
      @JSs T2 ((cxOf (CX1 P w) P w K mg base N qual (defScope st) f cdv A outer s H E).wish (Out (cxOf (CX1 P w) P w K mg base N qual (defScope st) f cdv A outer s H E) W)) (defBody st) (ws xq)) ∧
      ∀ vs S Q E, spx vs S Q E → ws (fun c fs _ S' => E c fs S') { nx := fun _ S' => Q .non S', rt := Q } (startP N vs) S) : FnOk P w K mg base (CX1 P w) (k + 1) f fd ps (liftSpX K spx) := by
  obtain ⟨ws, hj, hr⟩ := hbody
  obtain ⟨oc, od, kV, doc, pm, an, cdv, ct, osl, rfl, lk, hcd'⟩ := F.ex
  refine fn_of lk hcd' S (fun vs H Q E ⟨ι, S0, qs, Qp, Xp, _, rv, h, _⟩ => by rw [← rv.length]; exact len qs S0 Qp Xp h) fun A outer s H vs Q E hroom ⟨ι, S0, qs, Qp, Xp, hS, rv, h, kk, kx⟩ => ?_
  have hF : RF K ι H (startP N qs) (L2.start N vs) := by
    unfold startP L2.start
    rw [rv.length]
    exact rv.start _
  have L : @XLnk (sinceT T1 ι H) K (fun cls dx _ H' => E cls (some dx) H') (fun c fs _ S' => Xp c fs S') := fun ι' H' S' fr' σ' c fs cls dx hF' s' rx q =>
    kx ι' H' S' c fs cls dx (@RS.si (sinceT T1 ι H) _ _ _ _ s').2 (RS.down sinceT_on s') rx q
  refine ⟨@tS (sinceT T1 ι H) K (ws fun c fs _ S' => Xp c fs S'), pss_wish (@JSs.pss (sinceT T1 ι H) _ _ _ (hj cdv A outer s H E hcd hroom (fun cls dx _ H' => E cls (some dx) H') (sinceT T1 ι H) sinceT_on _ L)) fun e s' z => z.leaves, ?_⟩
  refine ⟨ι, startP N qs, S0, _, hF, RS.begin hS, hr qs S0 Qp Xp h, LD.up sinceT_on ?_⟩
  exact ⟨fun ι' H' S' fr' σ' f1 s1 _ q => kk ι' H' S' .non .non f1 s1 .non q, fun ι' H' S' p v f1 s1 r q => kk ι' H' S' p v f1 s1 r q, fun _ _ _ _ _ _ _ _ z => z.elim, fun _ _ _ _ _ _ _ _ z => z.elim⟩
end M

/-! isinstance(e, C) of an exception that was caught; e.word. -/
namespace L2
open PySem PySem.Spec PyProof.Rows PySem.Calls

/-- what the name __class__ is to a class of one's own -/
structure XIs (K : PySem.W.Frag) (C : Addr) : Prop where
  ca : PySem.W.findIn K (.ref C) "__class__" = some (some (.builtin "object.__class__"))
  sp : PySem.W.specialIn K (.builtin "object.__class__") "__get__" = some (some (.builtin "getset_descriptor.__get__"))
  tk : PySem.W.takesIn K (.builtin "object.__class__") = some true
section
variable {prog : Program} {w : World} {A : Around} {K : PySem.W.Frag} {C R0 x : Addr} {s : Shared} {ox od : Obj} {E : Value → Shared → Prop}
theorem xclass {Q : Option Value → Shared → Prop} (X : K.In s.heap) (c : XCls K C R0) (y : XIs K C) (I : PySem.W.InstAt s.heap x ox C (some od)) (h : Q (some (.ref C)) { s with toks := s.toks + 1 }) : wpAny (model prog w) A (getAttr? (.ref x) "__class__") Q E s := by
  obtain ⟨cd, hc, _, hd⟩ := c.cls
  have lt := I.type (M := model prog w)
  have lg := PySem.W.looks_findIn (M := model prog w) X c.ga
  have hf : PySem.W.findObj K C (some od) "__class__" = some (.bind (.builtin "getset_descriptor.__get__") (.builtin "object.__class__")) := PySem.W.findObj_data (by rw [hc]; rfl) y.ca y.sp y.tk
  have lf := PySem.W.looks_find (M := model prog w) X I hf
  have isB : PySem.W.Looks (model prog w) s.heap (isInstance (.ref x) (.type "BaseException")) true := I.type.andThen (PySem.W.looks_mroIn X c.be)
  obtain ⟨hp, g, d, t, os⟩ := s
  unfold getAttr? getAttrBy? getAttrBy
  refine wpAny_bind (wpAny_mkText (wpAny_bind (wpAny_attempt (wpAny_holding (wpAny_bind (lt.at (wpAny_bind (lg.at ?_))))))))
  have hook : PySem.W.Looks (model prog w) hp (hookBefore (.ref C)) none := PySem.W.looks_findIn X c.gx
  show wpAny _ _ (getAttrByItsOwn (.ref x) (.str "__class__" t) (.ref C) (.builtin "BaseException.__getattribute__") false false) _ _ _
  unfold getAttrByItsOwn
  refine wpAny_bind (hook.at (wpAny_bind (wpAny_attempt (wpAny_holding ?_))))
  have fin : codeAny (model prog w) A (.call (.builtin "BaseException.__getattribute__") ⟨[.ref x, .str "__class__" t], []⟩) (fun r s' => match r with | .ok (.ret u) => u = .ref C ∧ s' = ⟨hp, g, d, t + 1, os⟩ | _ => False) ⟨hp, g, d, t + 1, os⟩ := by
    refine codeAny_call_builtin PySem.F.excAttr_ValueError.ga.plain PySem.F.entry_bexc_ga (@PySem.W.check_slot (model prog w) _ _ ⟨hp, g, d, t + 1, os⟩ "BaseException.__getattribute__" "BaseException" "__getattribute__" (.ref x) [.str "__class__" t] [] _ (by decide +kernel) (by decide +kernel) isB (PySem.F.args_bexc_ga (.ref x) (.str "__class__" t)) ?_)
    refine wpAny_bind (wpAny_pure (wpAny_bind (wpAny_pure (wpAny_bind (lt.at (wpAny_bind (lf.at ?_)))))))
    refine wpAny_bind (wpAny_call (PySem.W.class_get (s := ⟨hp, g, d, t + 1, os⟩) (ox := ox) (od := some od) X I c.ob ?_))
    exact wpAny_pure ⟨rfl, rfl⟩
  unfold callGetattribute
  rw [show (false && onTheHeap (Value.builtin "BaseException.__getattribute__")) = false from rfl, if_neg Bool.false_ne_true]
  unfold boundAndCalled
  rw [PySem.F.excAttr_ValueError.ga.bind (.ref x)]
  refine wpAny_bind (wpAny_pure (wpAny_call (codeAny_mono fin fun r s' z => ?_)))
  rcases r with e | (u | _ | _ | _) <;> first | exact z.elim | skip
  obtain ⟨rfl, rfl⟩ := z
  show wpAny _ _ (handedOut _) _ _ _
  rw [PySem.W.handedOut_of rfl]
  exact wpAny_pure (wpAny_pure h)
end
section
variable {K : PySem.W.Frag} {C R x : Addr}
/-- an exception stands at x with its record -/
def XAt (C x : Addr) (h : Heap) : Prop := ∃ ox od, PySem.W.InstAt h x ox C (some od)
theorem kitx_exc (c : XCls K C R) (y : XIs K C) {v : Bool} (kc : PySem.W.kitCls K (.ref C) (.ref C) = some v) : PySem.W.KitX K (.ref x) (.ref C) (XAt C x) where
  ty := fun _ _ _ ⟨_, _, I⟩ => I.type
  it := fun _ _ X _ => (PySem.W.kit_cls X kc).2.1
  ne := fun hp t _ _ _ _ kin ht => by
    obtain ⟨nm, q, N, bs, sn, sub, ab, col, d0, k0, k1, k2, k3, k5, hK⟩ := c.obj
    rw [Bool.eq_false_iff]
    intro same
    obtain rfl : C = t := Value.ref.inj (beq_iff_eq.mp same)
    have z := congrArg Obj.cls (Option.some.inj ((kin _ _ hK).symm.trans ht))
    have z : Value.type "type" = Value.type "tuple" := z
    injection z with z
    exact absurd z (by decide)
  ca := fun X ⟨_, _, I⟩ k => xclass X c y I k
end
section
variable {X : Cx} {pins : List (Addr × Obj)} {σ : St} {H : Hp} {s : Shared} {e dx C R : Addr} {ws : List (Str × V)}
theorem Inv.exc (I : Inv X pins σ H s) (he : H e = some (XeO e (.ref C) dx)) (hd : H dx = some (.xd ws)) :
    ∃ ox mA, s.heap.get? e = some ox ∧ ox.cls = .ref C ∧ PySem.W.notCls ox = true ∧ ox.dict = some dx ∧ s.heap.Ns1 dx mA ∧ ∀ f, RelO (ws.lookup f) (mA f) := by
  obtain ⟨ox, vs, h1, h2, h3, h4⟩ := (I.hok e _ he).1
  obtain ⟨mA, h5, h6⟩ := I.hok dx _ hd
  exact ⟨ox, mA, h1, h2, by unfold PySem.W.notCls; rw [h4], h3, h5, h6⟩
theorem Inv.excAt (I : Inv X pins σ H s) (he : H e = some (XeO e (.ref C) dx)) (hd : H dx = some (.xd ws)) : XAt C e s.heap := by
  obtain ⟨ox, mA, h1, h2, h3, h4, h5, _⟩ := I.exc he hd
  obtain ⟨od, ho, _⟩ := lookIn_ns h5
  exact ⟨ox, od, h1, h2, h3, by rw [h4]; exact ho⟩
/-- what a class of one's own answers when it is asked for an exception's kind -/
structure XKind (K : PySem.W.Frag) (C : Addr) : Prop where
  xc : ∃ R, XCls K C R
  xi : XIs K C
  kc : ∃ v, PySem.W.kitCls K (.ref C) (.ref C) = some v
/-- one class, several of them -/
def rIsX (K : PySem.W.Frag) : List V → Hp → VK → Prop := fun vs H Q => ∃ a C dx ws b c, vs = [.ref a, c] ∧ H a = some (XeO a (.ref C) dx) ∧ H dx = some (.xd ws) ∧ XKind K C ∧
  ((∃ cv, (∀ u, RelV c u → u = cv) ∧ PySem.W.kitOne K (.ref C) cv = some b) ∨ ∃ tp, ∃ Cs : List Addr, c = .ref tp ∧ SqT K H tp (Cs.map V.ref) ∧ PySem.W.kitAny K (.ref C) (Cs.map Value.ref) = some b) ∧ Q (.bl b) H
theorem vals_refs : ∀ {Cs : List Addr} {us : List Value}, Vals (Cs.map V.ref) us → us = Cs.map Value.ref
  | [], _, .nil => rfl
  | C :: Cs, _, .cons r t => by
    cases (show _ = Value.ref C from r)
    rw [vals_refs t]; rfl
theorem call_isX : CallR X (.builtin "isinstance") (rIsX X.K) := by
  intro pins s σ H xs us Q I r h
  obtain ⟨a, C, dx, ws, b, c, rfl, he, hd, ⟨⟨R, xc⟩, xi, v, kc⟩, hq, q⟩ := h
  obtain ⟨u1, u2, rfl, r1, r2⟩ := vals2 r
  obtain rfl : u1 = Value.ref a := r1
  have at_ := I.excAt he hd
  have Z : PySem.W.KitX X.K (.ref a) (.ref C) (XAt C a) := kitx_exc xc xi kc
  have fin : ∀ tk, EP X pins σ Q (.bool b) { s with toks := tk } := fun tk => ⟨.bl b, H, I.tok tk, rfl, q⟩
  rcases hq with ⟨cv, hc, hk⟩ | ⟨tp, Cs, rfl, hT, hk⟩
  · cases hc u2 r2
    exact PySem.W.kia_one Z I.kIn at_ hk (fun z => nomatch z) fin
  · obtain rfl : u2 = Value.ref tp := r2
    obtain ⟨its, rv, ⟨o, ho, hcl, n, hdt⟩, _⟩ := I.tuple hT
    cases vals_refs rv
    obtain ⟨cl, dd, dt, sl⟩ := o
    cases hcl; cases hdt
    exact PySem.W.kia_tup Z I.kIn at_ ho hk (fun z => nomatch z) fin
/-- e.word -/
def tXget (K : PySem.W.Frag) (ta : TE) (f : Str) : TE := fun σ H Q => ta σ H fun x H1 => ∃ a C R dx ws v, x = .ref a ∧ H1 a = some (XeO a (.ref C) dx) ∧ H1 dx = some (.xd ws) ∧ XCls K C R ∧ PySem.W.findIn K (.ref C) f = some none ∧ ws.lookup f = some v ∧ Q v H1
theorem pe_xget {o : Expr} {f : Str} {pos : Pos} {ta : TE} (ho : PE X o ta) (hb : attributeBase o f X.env (eval o X.env) = eval o X.env) : PE X (.Attribute o f pos) (tXget X.K ta f) := by
  intro pins s σ H Q I h
  refine attr_of hb (thn (ho pins s σ H _ I h) fun u s1 ⟨x, H1, I1, rx, a, C, R, dx, ws, v, ex, ea, ed, c, n, l, q⟩ => ?_)
  subst ex
  obtain rfl : u = Value.ref a := rx
  obtain ⟨ox, mA, h1, h2, h3, h4, h5, h6⟩ := I1.exc ea ed
  have r := h6 f
  rw [l] at r
  cases hm : mA f with
  | none => rw [hm] at r; exact r.elim
  | some u' =>
    rw [hm] at r
    exact xget I1.kIn c h1 h2 h3 h4 h5 n hm (handed_of r) ⟨v, H1, I1.tok _, r, q⟩
end
end L2

/-! What the __init__ of an exception's class keeps, read off its body. -/
namespace L2
open PySem PySem.Spec PyProof.Rows PySem.Calls
variable {K : PySem.W.Frag}
/-- R.__init__(self, text) -/
def tXinit (K : PySem.W.Frag) (m : Str) : TE := fun σ H Q => tCons (tVar 0) (tCons (tC (.str m)) tNil) σ H fun vs H1 => ∃ e C y, vs = [.ref e, y] ∧ H1 e = some (XcO e (.ref C) none) ∧ (∃ R', XCls K C R') ∧ Q .non H1
theorem spX_len {fs : List Str} {vs : List V} {H : Hp} {Q : VK} {E : XK} (h : spX K fs vs H Q E) : vs.length = fs.length + 1 := by
  obtain ⟨e, C, R, ys, rfl, hl, _⟩ := h
  rw [List.length_cons, hl]
theorem init1 {a m : Str} {vs : List V} {H : Hp} {Q : VK} {E : XK} (h : spX K [a] vs H Q E) : tSeq (tDrop (tXinit K m)) (tXset K (tVar 0) (tVar 1) a) { nx := fun _ H' => Q .non H', rt := Q } (vs.map some) H := by
  obtain ⟨e, C, R, ys, rfl, hl, he, c, hn, k⟩ := h
  obtain ⟨y, rfl⟩ : ∃ y, ys = [y] := by
    match ys, hl with
    | [y], _ => exact ⟨y, rfl⟩
  refine ⟨_, rfl, e, C, _, rfl, he, ⟨R, c⟩, y, rfl, .ref e, rfl, e, C, R, none, rfl, he, c, hn a (by simp), .inl ⟨rfl, fun dx h1 h2 => ?_⟩⟩
  exact k dx _ h1 h2 upd_same (by rw [upd_ne h2, upd_same]; rfl) fun b n1 n2 => by rw [upd_ne n1, upd_ne n2]
end L2

/-! isinstance(e, C), isinstance(e, (C, ..)), e.word of an exception that was caught. -/
namespace M
open PySem PySem.Spec PyProof.Rows L2
variable {T0 : Tabs} [T1 : Tabs]

/-- the name d is a class of exceptions, of which b is told by k -/
def XTell (K : PySem.W.Frag) (d : Str) (k : Addr → Prop) : Prop := ∃ C, PySem.W.nsIn K mainGlobals d = some (some (.ref C)) ∧ XKind K C ∧ k C
/-- a class by its name; the names of several; a built-in class -/
structure XOne (K : PySem.W.Frag) (mg : Str → Option Value) (cn : Str) (is : Str → Option Bool) : Prop where
  ex : ∃ Cc, mg cn = some (.ref Cc) ∧ ∀ d b, is d = some b → XTell K d fun C => PySem.W.kitOne K (.ref C) (.ref Cc) = some b
structure XBlt (K : PySem.W.Frag) (mg : Str → Option Value) (T : String) (is : Str → Option Bool) : Prop where
  no : mg (Str.ofString T) = none
  ex : ∀ d b, is d = some b → XTell K d fun C => PySem.W.kitOne K (.ref C) (.type T) = some b
structure XAny (K : PySem.W.Frag) (mg : Str → Option Value) (cns : List Str) (is : Str → Option Bool) : Prop where
  ex : ∃ Cs : List Addr, Paired (fun cn Cc => mg cn = some (.ref Cc)) cns Cs ∧ ∀ d b, is d = some b → XTell K d fun C => PySem.W.kitAny K (.ref C) (Cs.map Value.ref) = some b
/-- the names' values, one after another -/
structure PRs (X : Cx) (es : List Expr) (cns : List Str) : Prop where
  pa : ∀ Cs : List Addr, Paired (fun cn Cc => X.mg cn = some (.ref Cc)) cns Cs → PA X es fun _ H Q => Q (Cs.map V.ref) H
theorem prs_nil {X : Cx} : PRs X [] [] := ⟨fun _ h => by cases h; exact pa_nil⟩
theorem prs_cons {X : Cx} {cn : Str} {p : Pos} {es : List Expr} {cns : List Str} (h : PRs X es cns) (hg : Gl X cn := by rfl) (hd : (cn == ("__debug__" : Str)) = false := by decide)
    (hs : starEach (.Name cn p :: es) X.env = (false, eval (.Name cn p) X.env) :: starEach es X.env := by rfl) : PRs X (.Name cn p :: es) (cn :: cns) := ⟨fun Cs hc => by
  cases hc with
  | @cons _ C _ Cs hm ht => exact pa_imp (pa_cons (pe_glob (v := .ref C) hg hm rfl hd) (h.pa Cs ht) hs) fun σ H Q q => q⟩
def wIsX (is : Str → Option Bool) (fe : WE) : WE := fun fr S Q => fe fr S fun x S1 => ∃ n d fs b, x = .ref n ∧ S1[n]? = some (.exc d fs) ∧ is d = some b ∧ Q (.bl b) S1
theorem RS.exc {K : PySem.W.Frag} {ι : List Addr} {H : Hp} {S : Sto} {n : Nat} {d : Str} {fs : List (Str × PV)} {v : V} (s : RS K ι H S) (r : RV K ι H (.ref n) v) (h : S[n]? = some (.exc d fs)) :
    ∃ a C dx ws, v = .ref a ∧ PySem.W.nsIn K mainGlobals d = some (some (.ref C)) ∧ H a = some (XeO a (.ref C) dx) ∧ H dx = some (.xd ws) ∧ RKs K ι H fs ws := by
  cases r with
  | ref ha =>
    obtain ⟨C, dx, ws, h0, h1, _, h2, h3⟩ := s.there h ha
    exact ⟨_, C, dx, ws, rfl, h0, h1, h2, h3⟩
section
variable {X : Cx} {e : Expr} {fe : WE} {cn : Str} {is : Str → Option Bool} {p q pos tpos : Pos}
theorem j_isX1 (hm : X.mg "isinstance" = none) (o : XOne X.K X.mg cn is) (he : JE X e fe) (hg : Gl X "isinstance" := by rfl) (hg2 : Gl X cn := by rfl) (hd2 : (cn == ("__debug__" : Str)) = false := by decide)
    (hs : starEach [e, .Name cn q] X.env = (false, eval e X.env) :: starEach [.Name cn q] X.env := by rfl) (hs2 : starEach [.Name cn q] X.env = [(false, eval (.Name cn q) X.env)] := by rfl) (hpl : (backTo pos (starEach [.Name cn q] X.env)).any (·.1) = false := by rfl) :
    JE X (.Call (.Name "isinstance" p) [e, .Name cn q] [] pos) (wIsX is fe) := by
  obtain ⟨Cc, hc, ht⟩ := o.ex
  refine ⟨pe_imp (pe_callB call_isX hg hm (by rfl) (pa_cons he.pe (pa_cons (pe_glob (v := .ref Cc) hg2 hc rfl hd2) pa_nil hs2) hs) (by decide) (by decide) hs hpl) fun σ H Q ⟨ι, fr, S, Qp, hF, hS, hf, k⟩ => ⟨ι, fr, S, _, hF, hS, hf, fun ι1 H1 S1 x v f1 s1 r1 ⟨n, d, fs, b, ex, hn, hi, q⟩ => ?_⟩⟩
  subst ex
  obtain ⟨a, C, dx, ws, rfl, h0, h1, h2, _⟩ := s1.exc r1 hn
  obtain ⟨C', h0', xk, hk⟩ := ht d b hi
  rw [h0] at h0'; cases h0'
  exact ⟨a, C, dx, ws, b, _, rfl, h1, h2, xk, .inl ⟨.ref Cc, fun u z => z, hk⟩, k ι1 H1 S1 (.bl b) _ f1 s1 (.bl b) q⟩
theorem j_isXV {T : String} (hm : X.mg "isinstance" = none) (o : XBlt X.K X.mg T is) (he : JE X e fe) (hv : bootBuiltins (Str.ofString T) = some (.type T) := by rfl) (hg : Gl X "isinstance" := by rfl) (hg2 : Gl X (Str.ofString T) := by rfl) (hd2 : (Str.ofString T == ("__debug__" : Str)) = false := by decide) (hn2 : Str.ofString T ≠ "__name__" := by decide)
    (hs : starEach [e, .Name (Str.ofString T) q] X.env = (false, eval e X.env) :: starEach [.Name (Str.ofString T) q] X.env := by rfl) (hs2 : starEach [.Name (Str.ofString T) q] X.env = [(false, eval (.Name (Str.ofString T) q) X.env)] := by rfl) (hpl : (backTo pos (starEach [.Name (Str.ofString T) q] X.env)).any (·.1) = false := by rfl) :
    JE X (.Call (.Name "isinstance" p) [e, .Name (Str.ofString T) q] [] pos) (wIsX is fe) := by
  refine ⟨pe_imp (pe_callB call_isX hg hm (by rfl) (pa_cons he.pe (pa_cons (pe_bltn (v := .ty T) hg2 o.no hv rfl hn2 hd2) pa_nil hs2) hs) (by decide) (by decide) hs hpl) fun σ H Q ⟨ι, fr, S, Qp, hF, hS, hf, k⟩ => ⟨ι, fr, S, _, hF, hS, hf, fun ι1 H1 S1 x v f1 s1 r1 ⟨n, d, fs, b, ex, hn, hi, q⟩ => ?_⟩⟩
  subst ex
  obtain ⟨a, C, dx, ws, rfl, h0, h1, h2, _⟩ := s1.exc r1 hn
  obtain ⟨C', h0', xk, hk⟩ := o.ex d b hi
  rw [h0] at h0'; cases h0'
  exact ⟨a, C, dx, ws, b, _, rfl, h1, h2, xk, .inl ⟨.type T, fun u z => z, hk⟩, k ι1 H1 S1 (.bl b) _ f1 s1 (.bl b) q⟩
theorem j_isXT {es : List Expr} {cns : List Str} {x1} (hm : X.mg "isinstance" = none) (o : XAny X.K X.mg cns is) (he : JE X e fe) (hr : PRs X es cns) (hl : cns.length ≤ 16 := by decide) (hg : Gl X "isinstance" := by rfl)
    (hs : starEach [e, .Tuple es x1 tpos] X.env = (false, eval e X.env) :: starEach [.Tuple es x1 tpos] X.env := by rfl) (hs2 : starEach [.Tuple es x1 tpos] X.env = [(false, eval (.Tuple es x1 tpos) X.env)] := by rfl) (hpl : (backTo pos (starEach [.Tuple es x1 tpos] X.env)).any (·.1) = false := by rfl) :
    JE X (.Call (.Name "isinstance" p) [e, .Tuple es x1 tpos] [] pos) (wIsX is fe) := by
  obtain ⟨Cs, hc, ht⟩ := o.ex
  refine ⟨pe_imp (pe_callB call_isX hg hm (by rfl) (pa_cons he.pe (pa_cons (pe_tup (hr.pa Cs hc)) pa_nil hs2) hs) (by decide) (by decide) hs hpl) fun σ H Q ⟨ι, fr, S, Qp, hF, hS, hf, k⟩ => ⟨ι, fr, S, _, hF, hS, hf, fun ι1 H1 S1 x v f1 s1 r1 ⟨n, d, fs, b, ex, hn, hi, q⟩ => ?_⟩⟩
  subst ex
  obtain ⟨a, C, dx, ws, rfl, h0, h1, h2, _⟩ := s1.exc r1 hn
  obtain ⟨C', h0', xk, hk⟩ := ht d b hi
  rw [h0] at h0'; cases h0'
  have hlen : (Cs.map V.ref).length ≤ sizeLine := by
    rw [List.length_map, ← hc.length]
    exact Nat.le_trans hl (by decide)
  refine ⟨hlen, fun t hp => ?_⟩
  exact ⟨a, C, dx, ws, b, _, rfl, (upd_ne (ne_of_none h1 hp)).trans h1, (upd_ne (ne_of_none h2 hp)).trans h2, xk, .inr ⟨t, Cs, rfl, .inl (.inl upd_same), hk⟩, k ι1 _ S1 (.bl b) _ (f1.trans (fut_new hp)) (s1.new hp) (.bl b) q⟩
/-- e.word -/
def wXGet (ok : Str → Prop) (f : Str) (fe : WE) : WE := fun fr S Q => fe fr S fun x S1 => ∃ n d fs y, x = .ref n ∧ S1[n]? = some (.exc d fs) ∧ ok d ∧ fs.lookup f = some y ∧ Q y S1
structure XGet (K : PySem.W.Frag) (ok : Str → Prop) (f : Str) : Prop where
  ex : ∀ d, ok d → ∃ C R, PySem.W.nsIn K mainGlobals d = some (some (.ref C)) ∧ XCls K C R ∧ PySem.W.findIn K (.ref C) f = some none
theorem RKs.look {K : PySem.W.Frag} {ι : List Addr} {H : Hp} {f : Str} {y : PV} : ∀ {fs : List (Str × PV)} {ws : List (Str × V)}, RKs K ι H fs ws → fs.lookup f = some y → ∃ v, ws.lookup f = some v ∧ RV K ι H y v
  | _, _, .nil, h => by simp at h
  | _, _, @RKs.cons _ _ _ _ k p v _ _ r t, h => by
    rw [List.lookup_cons] at h ⊢
    by_cases z : (f == k) = true
    · rw [z] at h ⊢
      cases h
      exact ⟨v, rfl, r⟩
    · rw [Bool.not_eq_true] at z
      rw [z] at h ⊢
      exact RKs.look t h
theorem j_xget {ok : Str → Prop} {f : Str} (x : XGet X.K ok f) (he : JE X e fe) (hb : attributeBase e f X.env (eval e X.env) = eval e X.env := by rfl) : JE X (.Attribute e f pos) (wXGet ok f fe) := by
  refine ⟨pe_imp (pe_xget he.pe hb) fun σ H Q ⟨ι, fr, S, Qp, hF, hS, hf, k⟩ => ⟨ι, fr, S, _, hF, hS, hf, fun ι1 H1 S1 x' v f1 s1 r1 ⟨n, d, fs, y, ex, hn, hi, hl, q⟩ => ?_⟩⟩
  subst ex
  obtain ⟨a, C, dx, ws, rfl, h0, h1, h2, h3⟩ := s1.exc r1 hn
  obtain ⟨C', R, h0', xc, hk⟩ := x.ex d hi
  rw [h0] at h0'; cases h0'
  obtain ⟨w, h4, h5⟩ := h3.look hl
  exact ⟨a, C, R, dx, ws, w, rfl, h1, h2, xc, hk, h4, k ι1 H1 S1 y w f1 s1 h5 q⟩
end

/-! ### the classes of a law, one after another -/
def AllP {α : Type} (P : α → Prop) : List α → Prop
  | [] => True
  | a :: r => P a ∧ AllP P r
theorem allP_mem {α : Type} {P : α → Prop} : ∀ {l : List α}, AllP P l → ∀ a, a ∈ l → P a
  | _ :: _, h, a, ha => by
    rcases List.mem_cons.mp ha with rfl | ha
    · exact h.1
    · exact allP_mem h.2 a ha
theorem allP_look {β : Type} {P : Str → β → Prop} {l : List (Str × β)} (h : AllP (fun p => P p.1 p.2) l) (d : Str) (b : β) (hb : l.lookup d = some b) : P d b := allP_mem h (d, b) (PySem.mem_of_lookup hb)
/-- the kinds that are told apart: each class with its answer -/
abbrev Is (l : List (Str × Bool)) : Str → Option Bool := fun d => l.lookup d
abbrev Of (l : List Str) : Str → Prop := fun d => d ∈ l
theorem start_full {N : List Str} {vs : List V} (h : vs.length = N.length) : L2.start N vs = vs.map some := by
  unfold L2.start
  rw [h, Nat.sub_self]
  exact List.append_nil _
end M

namespace k23
open PySem L2 M
def N_taken_from : List Str := ["one", "other", "place"]
def w_taken_from : WS :=
    (wRet (wCall pTuple (wCons (wLc 2 (wISeq (wVar 0)) (wB (wOp (bIn true) (wVar 2) (wVar 1))) (wVar 2)) wNil)))
def N_places_bounded : List Str := ["many"]
def w_places_bounded (xq : XP) : WS :=
    (wSeq (wIfS (wB (wOp bGt (wVar 0) (wC (.int 8)))) (wRaise xq "TooMany" ["word"] (wCons (wC (.str (Str.ofString "places"))) wNil)) wNext)
    (wRet (wVar 0)))
def N_doubled : List Str := ["family", "place", "many", "copies", "n", "members", "member"]
def w_doubled (sp_places_bounded : PSpX) (sp_taken_from : PSp) (xq : XP) : WS :=
    (wSeq (wAsg (wVar 0) (pGTup 2 (pGCons (pName 4) (pGCons (pName 5) pGNil))))
    (wSeq (wAsg (wCallX sp_places_bounded xq (wCons (wOp bAdd (wVar 4) (wC (.int 1))) wNil)) (pName 2))
    (wSeq (wAsg (wLc 6 (wISeq (wVar 5)) (wB (wOp (bIn false) (wVar 1) (wVar 6))) (wOp bAdd (wCall sp_taken_from (wCons (wVar 6) (wCons (wTup (wCons (wVar 1) wNil)) wNil))) (wTup (wCons (wVar 4) wNil)))) (pName 3))
    (wRet (wTup (wCons (wVar 2) (wCons (wCall pTuple (wCons (wCall pSort (wCons (wLst (wStar (wVar 5) (wStar (wVar 3) wNil))) wNil)) wNil)) wNil)))))))
def N_spread : List Str := ["family", "place", "many", "n", "members", "member"]
def w_spread (sp_places_bounded : PSpX) (xq : XP) : WS :=
    (wSeq (wAsg (wVar 0) (pGTup 2 (pGCons (pName 3) (pGCons (pName 4) pGNil))))
    (wSeq (wAsg (wCallX sp_places_bounded xq (wCons (wOp bAdd (wVar 3) (wC (.int 1))) wNil)) (pName 2))
    (wRet (wTup (wCons (wVar 2) (wCons (wCall pTuple (wCons (wCall pSort (wCons (wLc 5 (wISeq (wVar 4)) wYes (wIf (wB (wOp (bIn false) (wVar 1) (wVar 5))) (wOp bAdd (wVar 5) (wTup (wCons (wVar 3) wNil))) (wVar 5))) wNil)) wNil)) wNil))))))
def N_l_tape : List Str := ["_law_script"]
def w_l_tape : WS :=
    (wRet (wLst (wCons (wCall pList (wCons (wSl (wVar 0) wNoPart (wPart (wC (.int 63)))) wNil)) (wCons (wC (.int 0)) (wCons (wC (.int 0)) wNil)))))
def N_l_draw : List Str := ["_law_tape_here", "_law_many", "_law_spot", "_law_cell", "_law_mixed", "_law_found"]
def w_l_draw : WS :=
    (wSeq (wIfS (wB (wOp bGt (wOp bIdx (wVar 0) (wC (.int 2))) (wC (.int 0)))) (wSeq (wAsg (wOp bMod (wOp bIdx (wVar 0) (wC (.int 2))) (wVar 1)) (pName 5))
    (wSeq (wIPut (wVar 0) (wC (.int 2)) (wOp bFdiv (wOp bIdx (wVar 0) (wC (.int 2))) (wVar 1)))
    (wRet (wVar 5)))) wNext)
    (wSeq (wAsg (wOp bIdx (wVar 0) (wC (.int 1))) (pName 2))
    (wSeq (wIPut (wVar 0) (wC (.int 1)) (wOp bAdd (wVar 2) (wC (.int 1))))
    (wSeq (wAsg (wIf (wB (wOp (bEq true) (wOp bIdx (wVar 0) (wC (.int 0))) (wLst wNil))) (wOp bIdx (wOp bIdx (wVar 0) (wC (.int 0))) (wOp bMod (wVar 2) (wCall pLen (wCons (wOp bIdx (wVar 0) (wC (.int 0))) wNil)))) (wC (.int 3))) (pName 3))
    (wSeq (wIfS (wAndT (wB (wOp bGe (wVar 3) (wOp bPow (wC (.int 10)) (wC (.int 18))))) (wB (wOp bLt (wVar 2) (wCall pLen (wCons (wOp bIdx (wVar 0) (wC (.int 0))) wNil))))) (wSeq (wIPut (wVar 0) (wC (.int 2)) (wOp bFdiv (wVar 3) (wVar 1)))
    (wRet (wOp bMod (wVar 3) (wVar 1)))) wNext)
    (wSeq (wAsg (wOp bMod (wOp bPow (wOp bAdd (wOp bAdd (wOp bMul (wOp bMod (wVar 3) (wC (.int 2147483629))) (wOp bAdd (wOp bMul (wC (.int 2)) (wVar 2)) (wC (.int 1)))) (wOp bMul (wC (.int 7919)) (wVar 2))) (wC (.int 11))) (wC (.int 5))) (wC (.int 2147483647))) (pName 4))
    (wRet (wOp bMod (wOp bFdiv (wOp bMod (wOp bPow (wOp bAdd (wOp bMul (wVar 4) (wOp bAdd (wOp bMod (wVar 2) (wC (.int 97))) (wC (.int 5)))) (wVar 2)) (wC (.int 5))) (wC (.int 2147483587))) (wC (.int 64))) (wVar 1)))))))))
def N_l_n : List Str := ["_law_tape_here", "_law_least_here"]
def w_l_n (sp_l_draw : PSp) : WS :=
    (wSeq (wIfS (wB (wOp (bEq false) (wCall sp_l_draw (wCons (wVar 0) (wCons (wC (.int 16)) wNil))) (wC (.int 0)))) (wRet (wOp bAdd (wC (.int 6)) (wCall sp_l_draw (wCons (wVar 0) (wCons (wC (.int 3)) wNil))))) wNext)
    (wRet (wCall pMax2 (wCons (wVar 1) (wCons (wOp bIdx (wLst (wCons (wC (.int 0)) (wCons (wC (.int 1)) (wCons (wC (.int 2)) (wCons (wC (.int 3)) (wCons (wC (.int 3)) (wCons (wC (.int 4)) (wCons (wC (.int 4)) (wCons (wC (.int 5)) wNil))))))))) (wCall sp_l_draw (wCons (wVar 0) (wCons (wC (.int 8)) wNil)))) wNil)))))
def N_l_set : List Str := ["_law_n_here", "_law_bits", "_law_place"]
def w_l_set : WS :=
    (wRet (wCall pTuple (wCons (wLc 2 (wRange1 (wCons (wVar 0) wNil)) (wB (wOp (bEq false) (wOp bAnd (wOp bShr (wVar 1) (wVar 2)) (wC (.int 1))) (wC (.int 1)))) (wVar 2)) wNil)))
def N_l_size : List Str := ["_law_bits", "_law_k"]
def w_l_size : WS :=
    (wRet (wCall pLen (wCons (wLc 1 (wRange1 (wCons (wC (.int 8)) wNil)) (wB (wOp (bEq false) (wOp bAnd (wOp bShr (wVar 0) (wVar 1)) (wC (.int 1))) (wC (.int 1)))) (wVar 1)) wNil)))
def N_l_least : List Str := ["_law_some", "_law_found", "_law_bits", "_law_one"]
def w_l_least : WS :=
    (wSeq (wAsg (wCall pSortSetI (wCons (wVar 0) wNil)) (pName 1))
    (wRet (wLc 2 (wISeq (wVar 1)) (wB (wOp (bEq false) (wLc 3 (wISeq (wVar 1)) (wAndT (wB (wOp (bEq true) (wVar 3) (wVar 2))) (wB (wOp (bEq false) (wOp bAnd (wVar 3) (wVar 2)) (wVar 3)))) (wVar 3)) (wLst wNil))) (wVar 2))))
def N_l_family : List Str := ["_law_n_here", "_law_some", "_law_bits"]
def w_l_family (sp_l_set : PSp) : WS :=
    (wRet (wTup (wCons (wVar 0) (wCons (wCall pTuple (wCons (wCall pSort (wCons (wLc 2 (wISeq (wVar 1)) wYes (wCall sp_l_set (wCons (wVar 0) (wCons (wVar 2) wNil)))) wNil)) wNil)) wNil))))
def N_l_members : List Str := ["_law_tape_here", "_law_n_here", "_law_way", "_law_size_here", "_law_found", "_law_bits", "_law_k"]
def w_l_members (sp_l_draw : PSp) (sp_l_size : PSp) (sp_l_least : PSp) : WS :=
    (wSeq (wAsg (wCall sp_l_draw (wCons (wVar 0) (wCons (wC (.int 12)) wNil))) (pName 2))
    (wSeq (wIfS (wOrT (wB (wOp (bEq false) (wVar 1) (wC (.int 0)))) (wB (wOp (bEq false) (wVar 2) (wC (.int 0))))) (wRet (wOp bIdx (wLst (wCons (wLst wNil) (wCons (wLst (wCons (wC (.int 0)) wNil)) wNil))) (wCall sp_l_draw (wCons (wVar 0) (wCons (wC (.int 2)) wNil))))) wNext)
    (wSeq (wIfS (wB (wOp bLt (wVar 2) (wC (.int 3)))) (wSeq (wAsg (wOp bAdd (wC (.int 1)) (wCall sp_l_draw (wCons (wVar 0) (wCons (wVar 1) wNil)))) (pName 3))
    (wSeq (wAsg (wLc 5 (wRange1 (wCons (wOp bShl (wC (.int 1)) (wVar 1)) wNil)) (wB (wOp (bEq false) (wCall sp_l_size (wCons (wVar 5) wNil)) (wVar 3))) (wVar 5)) (pName 4))
    (wRet (wLc 5 (wISeq (wVar 4)) (wOrT (wB (wOp (bEq false) (wVar 2) (wC (.int 1)))) (wB (wOp bGt (wCall sp_l_draw (wCons (wVar 0) (wCons (wC (.int 5)) wNil))) (wC (.int 0))))) (wVar 5))))) wNext)
    (wRet (wCall sp_l_least (wCons (wLc 6 (wRange1 (wCons (wOp bAdd (wC (.int 1)) (wCall sp_l_draw (wCons (wVar 0) (wCons (wC (.int 10)) wNil)))) wNil)) wYes (wOp bAdd (wC (.int 1)) (wCall sp_l_draw (wCons (wVar 0) (wCons (wOp bSub (wOp bShl (wC (.int 1)) (wVar 1)) (wC (.int 1))) wNil))))) wNil))))))
def N_l_told : List Str := ["_law_is_doubled", "_law_family_here", "_law_place", "_law_found", "e", "_law_alone"]
def w_l_told (sp_doubled : PSpX) (sp_spread : PSpX) : WS :=
    (wSeq (wAsg (wC .non) (pName 3))
    (wSeq (wTryAs (Of ["NoPaper", "NoText", "NoSteps", "TooMany", "NoRow"]) 4 (fun xq => (wAsg (wTup (wCons (wC (.str (Str.ofString "told"))) (wCons (wIf (wTru (wVar 0)) (wCallX sp_doubled xq (wCons (wVar 1) (wCons (wVar 2) wNil))) (wCallX sp_spread xq (wCons (wVar 1) (wCons (wVar 2) wNil)))) wNil))) (pName 3))) (wSeq (wAsg (wTup (wCons (wC (.str (Str.ofString "odd"))) wNil)) (pName 3))
    (wSeq (wAsg (wNotV (wIsX (Is [("NoPaper", true), ("NoText", true), ("NoSteps", true), ("TooMany", false), ("NoRow", true)]) (wVar 4))) (pName 5))
    (wIfS (wAndT (wTru (wIsX (Is [("NoPaper", false), ("NoText", false), ("NoSteps", false), ("TooMany", true), ("NoRow", false)]) (wVar 4))) (wAndT (wTru (wIsX (Is [("NoPaper", true), ("NoText", true), ("NoSteps", true), ("TooMany", true), ("NoRow", true)]) (wVar 4))) (wTru (wVar 5)))) (wAsg (wTup (wCons (wC (.str (Str.ofString "many"))) (wCons (wXGet (Of ["NoPaper", "NoText", "NoSteps", "TooMany"]) "word" (wVar 4)) wNil))) (pName 3)) wNext))))
    (wRet (wVar 3))))
def N_l_due : List Str := ["_law_is_doubled", "_law_n_here", "_law_some", "_law_place", "_law_those", "_law_bit", "_law_last", "_law_bits"]
def w_l_due (sp_l_family : PSp) : WS :=
    (wSeq (wIfS (wB (wOp (bEq false) (wVar 1) (wC (.int 8)))) (wRet (wTup (wCons (wC (.str (Str.ofString "many"))) (wCons (wC (.str (Str.ofString "places"))) wNil)))) wNext)
    (wSeq (wAsg (wTup (wCons (wOp bShl (wC (.int 1)) (wVar 3)) (wCons (wOp bShl (wC (.int 1)) (wVar 1)) wNil))) (pGTup 2 (pGCons (pName 5) (pGCons (pName 6) pGNil))))
    (wSeq (wAsg (wLc 7 (wISeq (wVar 2)) (wB (wOp bGt (wOp bAnd (wVar 7) (wVar 5)) (wC (.int 0)))) (wVar 7)) (pName 4))
    (wSeq (wIfS (wTru (wVar 0)) (wRet (wTup (wCons (wC (.str (Str.ofString "told"))) (wCons (wCall sp_l_family (wCons (wOp bAdd (wVar 1) (wC (.int 1))) (wCons (wOp bAdd (wVar 2) (wLc 7 (wISeq (wVar 4)) wYes (wOp bAdd (wOp bSub (wVar 7) (wVar 5)) (wVar 6)))) wNil))) wNil)))) wNext)
    (wRet (wTup (wCons (wC (.str (Str.ofString "told"))) (wCons (wCall sp_l_family (wCons (wOp bAdd (wVar 1) (wC (.int 1))) (wCons (wLc 7 (wISeq (wVar 2)) wYes (wOp bAdd (wVar 7) (wOp bMul (wVar 6) (wCall pInt (wCons (wOp (bIn false) (wVar 7) (wVar 4)) wNil))))) wNil))) wNil))))))))
def N_law : List Str := ["_law_script", "_law_tape_here", "_law_k", "_law_is_full", "_law_n_here", "_law_some", "_law_family_here", "_law_before", "_law_place", "_law_is_doubled", "_law_found"]
def w_law (sp_l_tape : PSp) (sp_l_draw : PSp) (sp_l_n : PSp) (sp_l_members : PSp) (sp_l_family : PSp) (sp_l_told : PSp) (sp_l_due : PSp) : WS :=
    (wSeq (wAsg (wCall sp_l_tape (wCons (wVar 0) wNil)) (pName 1))
    (wSeq (wFor (wRange1 (wCons (wC (.int 2)) wNil)) (pName 2) (wSeq (wAsg (wOp (bEq false) (wCall sp_l_draw (wCons (wVar 1) (wCons (wC (.int 8)) wNil))) (wC (.int 0))) (pName 3))
    (wSeq (wAsg (wIf (wTru (wVar 3)) (wC (.int 8)) (wCall sp_l_n (wCons (wVar 1) (wCons (wC (.int 1)) wNil)))) (pName 4))
    (wSeq (wAsg (wCall sp_l_members (wCons (wVar 1) (wCons (wVar 4) wNil))) (pName 5))
    (wSeq (wAsg (wCall sp_l_family (wCons (wVar 4) (wCons (wVar 5) wNil))) (pName 6))
    (wSeq (wAsg (wCall pRepr (wCons (wVar 6) wNil)) (pName 7))
    (wFor (wRange1 (wCons (wVar 4) wNil)) (pName 8) (wFor (wISeq (wTup (wCons (wC (.bl true)) (wCons (wC (.bl false)) (wCons (wC (.bl true)) (wCons (wC (.bl false)) wNil)))))) (pName 9) (wSeq (wAsg (wCall sp_l_told (wCons (wVar 9) (wCons (wVar 6) (wCons (wVar 8) wNil)))) (pName 10))
    (wIfS (wOrT (wB (wOp (bEq true) (wCall pRepr (wCons (wVar 10) wNil)) (wCall pRepr (wCons (wCall sp_l_due (wCons (wVar 9) (wCons (wVar 4) (wCons (wVar 5) (wCons (wVar 8) wNil))))) wNil)))) (wB (wOp (bEq true) (wCall pRepr (wCons (wVar 6) wNil)) (wVar 7)))) (wRet (wC (.bl false))) wNext))))))))))
    (wRet (wC (.bl true)))))
end k23

namespace k23
open PySem PySem.Spec PyProof.Rows L2 M
variable [Tabs]
def top (i : Nat) : Stmt := PySem.Challenge.pw_rivalsets_k23_doubled_and_spread.main.body.getD i (.Pass ⟨0, 0, 0, 0⟩)
structure Blt (K : PySem.W.Frag) (mg : Str → Option Value) : Prop where
  int : mg "int" = none
  isinstance : mg "isinstance" = none
  len : mg "len" = none
  list : mg "list" = none
  max : mg "max" = none
  range : mg "range" = none
  repr : mg "repr" = none
  set : mg "set" = none
  sorted : mg "sorted" = none
  tuple : mg "tuple" = none
  c_MOST_PLACES : ∃ t, mg "MOST_PLACES" = some (.int 8 t)
structure Exc (P : Program) (w : World) (K : PySem.W.Frag) (mg : Str → Option Value) (base : Heap) : Prop where
  mk_TooMany : XMk P w K mg base "TooMany" ["word"]
  sub_RivalError : XSub K mg "RivalError" (Of ["NoPaper", "NoText", "NoSteps", "TooMany", "NoRow"])
  any_NoPaper_NoRow_NoSteps_NoText : XAny K mg ["NoPaper", "NoRow", "NoSteps", "NoText"] (Is [("NoPaper", true), ("NoText", true), ("NoSteps", true), ("TooMany", false), ("NoRow", true)])
  one_TooMany : XOne K mg "TooMany" (Is [("NoPaper", false), ("NoText", false), ("NoSteps", false), ("TooMany", true), ("NoRow", false)])
  blt_ValueError : XBlt K mg "ValueError" (Is [("NoPaper", true), ("NoText", true), ("NoSteps", true), ("TooMany", true), ("NoRow", true)])
  get_word : XGet K (Of ["NoPaper", "NoText", "NoSteps", "TooMany"]) "word"
def initS (i : Nat) : Stmt := match top i with
  | .ClassDef _ _ _ body _ _ _ _ _ _ _ => body.getD 0 (.Pass ⟨0, 0, 0, 0⟩)
  | st => st
theorem sc_TooMany : FnScope ["self", "word"] ["self", "word"] (defScope (initS 5)) := ⟨rfl, rfl, rfl, by decide +kernel, rfl, by decide +kernel, by decide +kernel⟩
theorem xi_TooMany {P : Program} {w : World} {K : PySem.W.Frag} {mg : Str → Option Value} {base : Heap} {f R : Addr} {fd : FuncData} (F : Fun K "__init__" "TooMany.__init__" (initS 5) f fd) (hR : mg "RivalError" = some (.ref R)) (x : XInit K R) : FnOk P w K mg base CX0 1 f fd ["self", "word"] (spX K ["word"]) :=
  F.ok sc_TooMany (fun vs H Q E h => spX_len h) fun cdv A outer s H vs Q E hr h => ⟨_, pss_cons (ps_expr (pe_xinit (by rfl) hR x (pa_cons (pv 0) (pa_cons pe_str pa_nil)))) (pss_one (ps_xset (pv 0) (pv 1) (by rfl))), by rw [start_full (spX_len h)]; exact init1 h⟩
section
variable {P : Program} {w : World} {K : PySem.W.Frag} {mg : Str → Option Value} {base : Heap}
abbrev s_taken_from : Stmt := top 9
theorem sc_taken_from : FnScope N_taken_from ["one", "other"] (defScope s_taken_from) := ⟨rfl, rfl, rfl, by decide +kernel, rfl, by decide +kernel, by decide +kernel⟩
theorem ok_taken_from {f : Addr} {fd : FuncData} {sp : PSp} (F : Fun K "taken_from" "taken_from" s_taken_from f fd) (B : Blt K mg) (len : ∀ vs S Q, sp vs S Q → vs.length = 2)
    (rd : ∀ vs S Q, sp vs S Q → w_taken_from { nx := fun _ S' => Q .non S', rt := Q } (startP N_taken_from vs) S) : FnOk P w K mg base CX0 1 f fd ["one", "other"] (liftSp K sp) := by
  refine def_ok (k := 0) F sc_taken_from len ⟨w_taken_from, fun cdv A outer s H E hr => ?_, rd⟩
  have nd := sc_taken_from.nd
  exact (jss_one (js_ret (j_bty b_tuple B.tuple (by rfl) (ja_cons (j_lc 2 nd (ji_seq (jv 0)) (by rfl) (fun _ _ _ _ _ => (jts_one (jt_cmp o_notin (jv 2) (jv 1) (by rfl)))) (fun _ _ _ _ _ => (jv 2))) ja_nil))))
abbrev s_places_bounded : Stmt := top 11
theorem sc_places_bounded : FnScope N_places_bounded ["many"] (defScope s_places_bounded) := ⟨rfl, rfl, rfl, by decide +kernel, rfl, by decide +kernel, by decide +kernel⟩
theorem ok_places_bounded {f : Addr} {fd : FuncData} {sp : PSpX} (F : Fun K "places_bounded" "places_bounded" s_places_bounded f fd) (B : Blt K mg) (Y : Exc P w K mg base) (len : ∀ vs S Q E, sp vs S Q E → vs.length = 1)
    (rd : ∀ vs S Q E, sp vs S Q E → w_places_bounded (fun c fs _ S' => E c fs S') { nx := fun _ S' => Q .non S', rt := Q } (startP N_places_bounded vs) S) : FnOk P w K mg base (CX1 P w) 3 f fd ["many"] (liftSpX K sp) := by
  refine def_okX (k := 2) F sc_places_bounded (fun _ => True) trivial len ⟨w_places_bounded, fun cdv A outer s H E cd hr W T2 o2 xq L => ?_, rd⟩
  have nd := sc_places_bounded.nd
  exact (jss_cons (js_if (jt_cmp o_gt (jv 0) (j_gint B.c_MOST_PLACES) (nomark _)) (jss_one (js_raise L Y.mk_TooMany (hr.mono (by decide)) (ja_cons j_str ja_nil))) jss_nil)
      (jss_one (js_ret (jv 0))))
abbrev s_doubled : Stmt := top 12
theorem sc_doubled : FnScope N_doubled ["family", "place"] (defScope s_doubled) := ⟨rfl, rfl, rfl, by decide +kernel, rfl, by decide +kernel, by decide +kernel⟩
theorem ok_doubled {f : Addr} {fd : FuncData} {sp : PSpX} (F : Fun K "doubled" "doubled" s_doubled f fd) (B : Blt K mg) {sp_places_bounded : PSpX} (F_places_bounded : FnX P w K mg base 3 "places_bounded" sp_places_bounded) {sp_taken_from : PSp} (F_taken_from : Fn P w K mg base 1 "taken_from" sp_taken_from) (len : ∀ vs S Q E, sp vs S Q E → vs.length = 2)
    (rd : ∀ vs S Q E, sp vs S Q E → w_doubled sp_places_bounded sp_taken_from (fun c fs _ S' => E c fs S') { nx := fun _ S' => Q .non S', rt := Q } (startP N_doubled vs) S) : FnOk P w K mg base (CX1 P w) 4 f fd ["family", "place"] (liftSpX K sp) := by
  refine def_okX (k := 3) F sc_doubled (fun _ => True) trivial len ⟨w_doubled sp_places_bounded sp_taken_from, fun cdv A outer s H E cd hr W T2 o2 xq L => ?_, rd⟩
  have nd := sc_doubled.nd
  exact (jss_cons (js_asg (jv 0) (jg_tup (jgs_cons (jg_name 4 nd) (jgs_cons (jg_name 5 nd) jgs_nil))))
      (jss_cons (js_set 2 nd (j_callX L F_places_bounded (hr.mono (by decide)) (ja_cons (j_op o_add (jv 4) j_int) ja_nil)))
      (jss_cons (js_setLc 3 6 nd (ji_seq (jv 5)) (by rfl) (fun _ _ _ _ _ => (jts_one (jt_cmp o_in (jv 1) (jv 6) (by rfl)))) (fun _ _ _ _ _ => (j_op o_add (j_call F_taken_from (hr.mono (by decide)) (ja_cons (jv 6) (ja_cons (j_tup (ja_cons (jv 1) ja_nil)) ja_nil))) (j_tup (ja_cons (jv 4) ja_nil)))) (sw_true rfl rfl rfl (by decide +kernel)))
      (jss_one (js_ret (j_tup (ja_cons (jv 2) (ja_cons (j_bty b_tuple B.tuple (by rfl) (ja_cons (j_blt (b_sort hr.units) B.sorted (by rfl) (ja_cons (j_lst (ja_star (jv 5) (ja_star (jv 3) ja_nil))) ja_nil)) ja_nil)) ja_nil))))))))
abbrev s_spread : Stmt := top 13
theorem sc_spread : FnScope N_spread ["family", "place"] (defScope s_spread) := ⟨rfl, rfl, rfl, by decide +kernel, rfl, by decide +kernel, by decide +kernel⟩
theorem ok_spread {f : Addr} {fd : FuncData} {sp : PSpX} (F : Fun K "spread" "spread" s_spread f fd) (B : Blt K mg) {sp_places_bounded : PSpX} (F_places_bounded : FnX P w K mg base 3 "places_bounded" sp_places_bounded) (len : ∀ vs S Q E, sp vs S Q E → vs.length = 2)
    (rd : ∀ vs S Q E, sp vs S Q E → w_spread sp_places_bounded (fun c fs _ S' => E c fs S') { nx := fun _ S' => Q .non S', rt := Q } (startP N_spread vs) S) : FnOk P w K mg base (CX1 P w) 4 f fd ["family", "place"] (liftSpX K sp) := by
  refine def_okX (k := 3) F sc_spread (fun _ => True) trivial len ⟨w_spread sp_places_bounded, fun cdv A outer s H E cd hr W T2 o2 xq L => ?_, rd⟩
  have nd := sc_spread.nd
  exact (jss_cons (js_asg (jv 0) (jg_tup (jgs_cons (jg_name 3 nd) (jgs_cons (jg_name 4 nd) jgs_nil))))
      (jss_cons (js_set 2 nd (j_callX L F_places_bounded (hr.mono (by decide)) (ja_cons (j_op o_add (jv 3) j_int) ja_nil)))
      (jss_one (js_ret (j_tup (ja_cons (jv 2) (ja_cons (j_bty b_tuple B.tuple (by rfl) (ja_cons (j_blt (b_sort hr.units) B.sorted (by rfl) (ja_cons (j_lc 5 nd (ji_seq (jv 4)) (by rfl) (fun _ _ _ _ _ => jts_nil) (fun _ _ _ _ _ => (j_if (jt_cmp o_in (jv 1) (jv 5) (by rfl)) (j_op o_add (jv 5) (j_tup (ja_cons (jv 3) ja_nil))) (jv 5)))) ja_nil)) ja_nil)) ja_nil)))))))
abbrev s_l_tape : Stmt := top 15
theorem sc_l_tape : FnScope N_l_tape ["_law_script"] (defScope s_l_tape) := ⟨rfl, rfl, rfl, by decide +kernel, rfl, by decide +kernel, by decide +kernel⟩
theorem ok_l_tape {f : Addr} {fd : FuncData} {sp : PSp} (F : Fun K "_law_tape" "_law_tape" s_l_tape f fd) (B : Blt K mg) (len : ∀ vs S Q, sp vs S Q → vs.length = 1)
    (rd : ∀ vs S Q, sp vs S Q → w_l_tape { nx := fun _ S' => Q .non S', rt := Q } (startP N_l_tape vs) S) : FnOk P w K mg base CX0 1 f fd ["_law_script"] (liftSp K sp) := by
  refine def_ok (k := 0) F sc_l_tape len ⟨w_l_tape, fun cdv A outer s H E hr => ?_, rd⟩
  have nd := sc_l_tape.nd
  exact (jss_one (js_ret (j_lst (ja_cons (j_bty b_list B.list (by rfl) (ja_cons (j_slice (jv 0) jo_none (jo_some j_int)) ja_nil)) (ja_cons j_int (ja_cons j_int ja_nil))))))
abbrev s_l_draw : Stmt := top 16
theorem sc_l_draw : FnScope N_l_draw ["_law_tape_here", "_law_many"] (defScope s_l_draw) := ⟨rfl, rfl, rfl, by decide +kernel, rfl, by decide +kernel, by decide +kernel⟩
theorem ok_l_draw {f : Addr} {fd : FuncData} {sp : PSp} (F : Fun K "_law_draw" "_law_draw" s_l_draw f fd) (B : Blt K mg) (len : ∀ vs S Q, sp vs S Q → vs.length = 2)
    (rd : ∀ vs S Q, sp vs S Q → w_l_draw { nx := fun _ S' => Q .non S', rt := Q } (startP N_l_draw vs) S) : FnOk P w K mg base CX0 1 f fd ["_law_tape_here", "_law_many"] (liftSp K sp) := by
  refine def_ok (k := 0) F sc_l_draw len ⟨w_l_draw, fun cdv A outer s H E hr => ?_, rd⟩
  have nd := sc_l_draw.nd
  exact (jss_cons (js_if (jt_cmp o_gt (j_idx (jv 0) j_int) j_int (nomark _)) (jss_cons (js_set 5 nd (j_op o_mod (j_idx (jv 0) j_int) (jv 1)))
      (jss_cons (js_iput (jv 0) j_int (j_op o_fdiv (j_idx (jv 0) j_int) (jv 1)))
      (jss_one (js_ret (jv 5))))) jss_nil)
      (jss_cons (js_set 2 nd (j_idx (jv 0) j_int))
      (jss_cons (js_iput (jv 0) j_int (j_op o_add (jv 2) j_int))
      (jss_cons (js_set 3 nd (j_if (jt_cmp (o_ne hr.units) (j_idx (jv 0) j_int) (j_lst ja_nil) (nomark _)) (j_idx (j_idx (jv 0) j_int) (j_op o_mod (jv 2) (j_blt b_len B.len (by rfl) (ja_cons (j_idx (jv 0) j_int) ja_nil)))) j_int))
      (jss_cons (js_if (JW.jt (jw_and (jt_cmp o_ge (jv 3) (j_op o_pow j_int j_int) (nomark _)) (jw_and1 (jt_cmp (o_lt hr.units0) (jv 2) (j_blt b_len B.len (by rfl) (ja_cons (j_idx (jv 0) j_int) ja_nil)) (nomark _))))) (jss_cons (js_iput (jv 0) j_int (j_op o_fdiv (jv 3) (jv 1)))
      (jss_one (js_ret (j_op o_mod (jv 3) (jv 1))))) jss_nil)
      (jss_cons (js_set 4 nd (j_op o_mod (j_op o_pow (j_op o_add (j_op o_add (j_op o_mul (j_op o_mod (jv 3) j_int) (j_op o_add (j_op o_mul j_int (jv 2)) j_int)) (j_op o_mul j_int (jv 2))) j_int) j_int) j_int))
      (jss_one (js_ret (j_op o_mod (j_op o_fdiv (j_op o_mod (j_op o_pow (j_op o_add (j_op o_mul (jv 4) (j_op o_add (j_op o_mod (jv 2) j_int) j_int)) (jv 2)) j_int) j_int) j_int) (jv 1))))))))))
abbrev s_l_n : Stmt := top 17
theorem sc_l_n : FnScope N_l_n ["_law_tape_here", "_law_least_here"] (defScope s_l_n) := ⟨rfl, rfl, rfl, by decide +kernel, rfl, by decide +kernel, by decide +kernel⟩
theorem ok_l_n {f : Addr} {fd : FuncData} {sp : PSp} (F : Fun K "_law_n" "_law_n" s_l_n f fd) (B : Blt K mg) {sp_l_draw : PSp} (F_l_draw : Fn P w K mg base 1 "_law_draw" sp_l_draw) (len : ∀ vs S Q, sp vs S Q → vs.length = 2)
    (rd : ∀ vs S Q, sp vs S Q → w_l_n sp_l_draw { nx := fun _ S' => Q .non S', rt := Q } (startP N_l_n vs) S) : FnOk P w K mg base CX0 2 f fd ["_law_tape_here", "_law_least_here"] (liftSp K sp) := by
  refine def_ok (k := 1) F sc_l_n len ⟨w_l_n sp_l_draw, fun cdv A outer s H E hr => ?_, rd⟩
  have nd := sc_l_n.nd
  exact (jss_cons (js_if (jt_cmp (o_eq hr.units) (j_call F_l_draw (hr.mono (by decide)) (ja_cons (jv 0) (ja_cons j_int ja_nil))) j_int (nomark _)) (jss_one (js_ret (j_op o_add j_int (j_call F_l_draw (hr.mono (by decide)) (ja_cons (jv 0) (ja_cons j_int ja_nil)))))) jss_nil)
      (jss_one (js_ret (j_blt (b_max2 rfl) B.max (by rfl) (ja_cons (jv 1) (ja_cons (j_idx (j_lst (ja_cons j_int (ja_cons j_int (ja_cons j_int (ja_cons j_int (ja_cons j_int (ja_cons j_int (ja_cons j_int (ja_cons j_int ja_nil))))))))) (j_call F_l_draw (hr.mono (by decide)) (ja_cons (jv 0) (ja_cons j_int ja_nil)))) ja_nil))))))
abbrev s_l_set : Stmt := top 18
theorem sc_l_set : FnScope N_l_set ["_law_n_here", "_law_bits"] (defScope s_l_set) := ⟨rfl, rfl, rfl, by decide +kernel, rfl, by decide +kernel, by decide +kernel⟩
theorem ok_l_set {f : Addr} {fd : FuncData} {sp : PSp} (F : Fun K "_law_set" "_law_set" s_l_set f fd) (B : Blt K mg) (len : ∀ vs S Q, sp vs S Q → vs.length = 2)
    (rd : ∀ vs S Q, sp vs S Q → w_l_set { nx := fun _ S' => Q .non S', rt := Q } (startP N_l_set vs) S) : FnOk P w K mg base CX0 1 f fd ["_law_n_here", "_law_bits"] (liftSp K sp) := by
  refine def_ok (k := 0) F sc_l_set len ⟨w_l_set, fun cdv A outer s H E hr => ?_, rd⟩
  have nd := sc_l_set.nd
  exact (jss_one (js_ret (j_bty b_tuple B.tuple (by rfl) (ja_cons (j_lc 2 nd (ji_range1 B.range (ja_cons (jv 0) ja_nil)) (by rfl) (fun _ _ _ _ _ => (jts_one (jt_cmp (o_eq hr.units) (j_op o_and (j_op o_shr (jv 1) (jv 2)) j_int) j_int (nomark _)))) (fun _ _ _ _ _ => (jv 2))) ja_nil))))
abbrev s_l_size : Stmt := top 19
theorem sc_l_size : FnScope N_l_size ["_law_bits"] (defScope s_l_size) := ⟨rfl, rfl, rfl, by decide +kernel, rfl, by decide +kernel, by decide +kernel⟩
theorem ok_l_size {f : Addr} {fd : FuncData} {sp : PSp} (F : Fun K "_law_size" "_law_size" s_l_size f fd) (B : Blt K mg) (len : ∀ vs S Q, sp vs S Q → vs.length = 1)
    (rd : ∀ vs S Q, sp vs S Q → w_l_size { nx := fun _ S' => Q .non S', rt := Q } (startP N_l_size vs) S) : FnOk P w K mg base CX0 1 f fd ["_law_bits"] (liftSp K sp) := by
  refine def_ok (k := 0) F sc_l_size len ⟨w_l_size, fun cdv A outer s H E hr => ?_, rd⟩
  have nd := sc_l_size.nd
  exact (jss_one (js_ret (j_blt b_len B.len (by rfl) (ja_cons (j_lc 1 nd (ji_range1 B.range (ja_cons j_int ja_nil)) (by rfl) (fun _ _ _ _ _ => (jts_one (jt_cmp (o_eq hr.units) (j_op o_and (j_op o_shr (jv 0) (jv 1)) j_int) j_int (nomark _)))) (fun _ _ _ _ _ => (jv 1))) ja_nil))))
abbrev s_l_least : Stmt := top 20
theorem sc_l_least : FnScope N_l_least ["_law_some"] (defScope s_l_least) := ⟨rfl, rfl, rfl, by decide +kernel, rfl, by decide +kernel, by decide +kernel⟩
theorem ok_l_least {f : Addr} {fd : FuncData} {sp : PSp} (F : Fun K "_law_least" "_law_least" s_l_least f fd) (B : Blt K mg) (len : ∀ vs S Q, sp vs S Q → vs.length = 1)
    (rd : ∀ vs S Q, sp vs S Q → w_l_least { nx := fun _ S' => Q .non S', rt := Q } (startP N_l_least vs) S) : FnOk P w K mg base CX0 1 f fd ["_law_some"] (liftSp K sp) := by
  refine def_ok (k := 0) F sc_l_least len ⟨w_l_least, fun cdv A outer s H E hr => ?_, rd⟩
  have nd := sc_l_least.nd
  exact (jss_cons (js_set 1 nd (j_sortSetI hr B.sorted (by rfl) B.set (by rfl) (ja_cons (jv 0) ja_nil)))
      (jss_one (js_ret (j_lc 2 nd (ji_seq (jv 1)) (by rfl) (fun _ _ _ _ _ => (jts_one (jt_cmp (o_eq hr.units) (j_lc 3 nd (ji_seq (jv 1)) (by rfl) (fun _ _ _ _ _ => (jts_one (JW.jt (jw_and (jt_cmp (o_ne hr.units) (jv 3) (jv 2) (nomark _)) (jw_and1 (jt_cmp (o_eq hr.units) (j_op o_and (jv 3) (jv 2)) (jv 3) (nomark _))))))) (fun _ _ _ _ _ => (jv 3))) (j_lst ja_nil) (nomark _)))) (fun _ _ _ _ _ => (jv 2))))))
abbrev s_l_family : Stmt := top 21
theorem sc_l_family : FnScope N_l_family ["_law_n_here", "_law_some"] (defScope s_l_family) := ⟨rfl, rfl, rfl, by decide +kernel, rfl, by decide +kernel, by decide +kernel⟩
theorem ok_l_family {f : Addr} {fd : FuncData} {sp : PSp} (F : Fun K "_law_family" "_law_family" s_l_family f fd) (B : Blt K mg) {sp_l_set : PSp} (F_l_set : Fn P w K mg base 1 "_law_set" sp_l_set) (len : ∀ vs S Q, sp vs S Q → vs.length = 2)
    (rd : ∀ vs S Q, sp vs S Q → w_l_family sp_l_set { nx := fun _ S' => Q .non S', rt := Q } (startP N_l_family vs) S) : FnOk P w K mg base CX0 2 f fd ["_law_n_here", "_law_some"] (liftSp K sp) := by
  refine def_ok (k := 1) F sc_l_family len ⟨w_l_family sp_l_set, fun cdv A outer s H E hr => ?_, rd⟩
  have nd := sc_l_family.nd
  exact (jss_one (js_ret (j_tup (ja_cons (jv 0) (ja_cons (j_bty b_tuple B.tuple (by rfl) (ja_cons (j_blt (b_sort hr.units) B.sorted (by rfl) (ja_cons (j_lc 2 nd (ji_seq (jv 1)) (by rfl) (fun _ _ _ _ _ => jts_nil) (fun _ _ _ _ _ => (j_call F_l_set (hr.mono (by decide)) (ja_cons (jv 0) (ja_cons (jv 2) ja_nil))))) ja_nil)) ja_nil)) ja_nil)))))
abbrev s_l_members : Stmt := top 22
theorem sc_l_members : FnScope N_l_members ["_law_tape_here", "_law_n_here"] (defScope s_l_members) := ⟨rfl, rfl, rfl, by decide +kernel, rfl, by decide +kernel, by decide +kernel⟩
theorem ok_l_members {f : Addr} {fd : FuncData} {sp : PSp} (F : Fun K "_law_members" "_law_members" s_l_members f fd) (B : Blt K mg) {sp_l_draw : PSp} (F_l_draw : Fn P w K mg base 1 "_law_draw" sp_l_draw) {sp_l_size : PSp} (F_l_size : Fn P w K mg base 1 "_law_size" sp_l_size) {sp_l_least : PSp} (F_l_least : Fn P w K mg base 1 "_law_least" sp_l_least) (len : ∀ vs S Q, sp vs S Q → vs.length = 2)
    (rd : ∀ vs S Q, sp vs S Q → w_l_members sp_l_draw sp_l_size sp_l_least { nx := fun _ S' => Q .non S', rt := Q } (startP N_l_members vs) S) : FnOk P w K mg base CX0 2 f fd ["_law_tape_here", "_law_n_here"] (liftSp K sp) := by
  refine def_ok (k := 1) F sc_l_members len ⟨w_l_members sp_l_draw sp_l_size sp_l_least, fun cdv A outer s H E hr => ?_, rd⟩
  have nd := sc_l_members.nd
  exact (jss_cons (js_set 2 nd (j_call F_l_draw (hr.mono (by decide)) (ja_cons (jv 0) (ja_cons j_int ja_nil))))
      (jss_cons (js_if (JW.jt (jw_or (jt_cmp (o_eq hr.units) (jv 1) j_int (nomark _)) (jw_or1 (jt_cmp (o_eq hr.units) (jv 2) j_int (nomark _))))) (jss_one (js_ret (j_idx (j_lst (ja_cons (j_lst ja_nil) (ja_cons (j_lst (ja_cons j_int ja_nil)) ja_nil))) (j_call F_l_draw (hr.mono (by decide)) (ja_cons (jv 0) (ja_cons j_int ja_nil)))))) jss_nil)
      (jss_cons (js_if (jt_cmp (o_lt hr.units0) (jv 2) j_int (nomark _)) (jss_cons (js_set 3 nd (j_op o_add j_int (j_call F_l_draw (hr.mono (by decide)) (ja_cons (jv 0) (ja_cons (jv 1) ja_nil)))))
      (jss_cons (js_setLc 4 5 nd (ji_range1 B.range (ja_cons (j_op o_shl j_int (jv 1)) ja_nil)) (by rfl) (fun _ _ _ _ _ => (jts_one (jt_cmp (o_eq hr.units) (j_call F_l_size (hr.mono (by decide)) (ja_cons (jv 5) ja_nil)) (jv 3) (nomark _)))) (fun _ _ _ _ _ => (jv 5)) (sw_true rfl rfl rfl (by decide +kernel)))
      (jss_one (js_ret (j_lc 5 nd (ji_seq (jv 4)) (by rfl) (fun _ _ _ _ _ => (jts_one (JW.jt (jw_or (jt_cmp (o_eq hr.units) (jv 2) j_int (nomark _)) (jw_or1 (jt_cmp o_gt (j_call F_l_draw (hr.mono (by decide)) (ja_cons (jv 0) (ja_cons j_int ja_nil))) j_int (nomark _))))))) (fun _ _ _ _ _ => (jv 5))))))) jss_nil)
      (jss_one (js_ret (j_call F_l_least (hr.mono (by decide)) (ja_cons (j_lc 6 nd (ji_range1 B.range (ja_cons (j_op o_add j_int (j_call F_l_draw (hr.mono (by decide)) (ja_cons (jv 0) (ja_cons j_int ja_nil)))) ja_nil)) (by rfl) (fun _ _ _ _ _ => jts_nil) (fun _ _ _ _ _ => (j_op o_add j_int (j_call F_l_draw (hr.mono (by decide)) (ja_cons (jv 0) (ja_cons (j_op o_sub (j_op o_shl j_int (jv 1)) j_int) ja_nil)))))) ja_nil)))))))
abbrev s_l_told : Stmt := top 23
theorem sc_l_told : FnScope N_l_told ["_law_is_doubled", "_law_family_here", "_law_place"] (defScope s_l_told) := ⟨rfl, rfl, rfl, by decide +kernel, rfl, by decide +kernel, by decide +kernel⟩
theorem ok_l_told {f : Addr} {fd : FuncData} {sp : PSp} (F : Fun K "_law_told" "_law_told" s_l_told f fd) (B : Blt K mg) (Y : Exc P w K mg base) {sp_doubled : PSpX} (F_doubled : FnX P w K mg base 4 "doubled" sp_doubled) {sp_spread : PSpX} (F_spread : FnX P w K mg base 4 "spread" sp_spread) (len : ∀ vs S Q, sp vs S Q → vs.length = 3)
    (rd : ∀ vs S Q, sp vs S Q → w_l_told sp_doubled sp_spread { nx := fun _ S' => Q .non S', rt := Q } (startP N_l_told vs) S) : FnOk P w K mg base CX0 5 f fd ["_law_is_doubled", "_law_family_here", "_law_place"] (liftSp K sp) := by
  refine def_ok (k := 4) F sc_l_told len ⟨w_l_told sp_doubled sp_spread, fun cdv A outer s H E hr => ?_, rd⟩
  have nd := sc_l_told.nd
  exact (jss_cons (js_set 3 nd j_non)
      (jss_cons (js_tryAs 4 nd Y.sub_RivalError (fun ps W T2 o2 xq L => (jss_one (js_set 3 nd (j_tup (ja_cons j_str (ja_cons (j_if (jt_tru (jv 0)) (j_callX L F_doubled (hr.mono (by decide)) (ja_cons (jv 1) (ja_cons (jv 2) ja_nil))) (j_callX L F_spread (hr.mono (by decide)) (ja_cons (jv 1) (ja_cons (jv 2) ja_nil)))) ja_nil)))))) (fun v => (jss_cons (js_set 3 nd (j_tup (ja_cons j_str ja_nil)))
      (jss_cons (js_set 5 nd (j_not (j_isXT B.isinstance Y.any_NoPaper_NoRow_NoSteps_NoText (jv 4) (prs_cons (prs_cons (prs_cons (prs_cons prs_nil)))))))
      (jss_one (js_if (JW.jt (jw_and (jt_tru (j_isX1 B.isinstance Y.one_TooMany (jv 4))) (jw_and (jt_tru (j_isXV (T := "ValueError") B.isinstance Y.blt_ValueError (jv 4))) (jw_and1 (jt_tru (jv 5)))))) (jss_one (js_set 3 nd (j_tup (ja_cons j_str (ja_cons (j_xget Y.get_word (jv 4)) ja_nil))))) jss_nil))))))
      (jss_one (js_ret (jv 3)))))
abbrev s_l_due : Stmt := top 24
theorem sc_l_due : FnScope N_l_due ["_law_is_doubled", "_law_n_here", "_law_some", "_law_place"] (defScope s_l_due) := ⟨rfl, rfl, rfl, by decide +kernel, rfl, by decide +kernel, by decide +kernel⟩
theorem ok_l_due {f : Addr} {fd : FuncData} {sp : PSp} (F : Fun K "_law_due" "_law_due" s_l_due f fd) (B : Blt K mg) {sp_l_family : PSp} (F_l_family : Fn P w K mg base 2 "_law_family" sp_l_family) (len : ∀ vs S Q, sp vs S Q → vs.length = 4)
    (rd : ∀ vs S Q, sp vs S Q → w_l_due sp_l_family { nx := fun _ S' => Q .non S', rt := Q } (startP N_l_due vs) S) : FnOk P w K mg base CX0 3 f fd ["_law_is_doubled", "_law_n_here", "_law_some", "_law_place"] (liftSp K sp) := by
  refine def_ok (k := 2) F sc_l_due len ⟨w_l_due sp_l_family, fun cdv A outer s H E hr => ?_, rd⟩
  have nd := sc_l_due.nd
  exact (jss_cons (js_if (jt_cmp (o_eq hr.units) (jv 1) j_int (nomark _)) (jss_one (js_ret (j_tup (ja_cons j_str (ja_cons j_str ja_nil))))) jss_nil)
      (jss_cons (js_asg (j_tup (ja_cons (j_op o_shl j_int (jv 3)) (ja_cons (j_op o_shl j_int (jv 1)) ja_nil))) (jg_tup (jgs_cons (jg_name 5 nd) (jgs_cons (jg_name 6 nd) jgs_nil))))
      (jss_cons (js_set 4 nd (j_lc 7 nd (ji_seq (jv 2)) (by rfl) (fun _ _ _ _ _ => (jts_one (jt_cmp o_gt (j_op o_and (jv 7) (jv 5)) j_int (nomark _)))) (fun _ _ _ _ _ => (jv 7))))
      (jss_cons (js_if (jt_tru (jv 0)) (jss_one (js_ret (j_tup (ja_cons j_str (ja_cons (j_call F_l_family (hr.mono (by decide)) (ja_cons (j_op o_add (jv 1) j_int) (ja_cons (j_op o_add (jv 2) (j_lc 7 nd (ji_seq (jv 4)) (by rfl) (fun _ _ _ _ _ => jts_nil) (fun _ _ _ _ _ => (j_op o_add (j_op o_sub (jv 7) (jv 5)) (jv 6))))) ja_nil))) ja_nil))))) jss_nil)
      (jss_one (js_ret (j_tup (ja_cons j_str (ja_cons (j_call F_l_family (hr.mono (by decide)) (ja_cons (j_op o_add (jv 1) j_int) (ja_cons (j_lc 7 nd (ji_seq (jv 2)) (by rfl) (fun _ _ _ _ _ => jts_nil) (fun _ _ _ _ _ => (j_op o_add (jv 7) (j_op o_mul (jv 6) (j_bty b_int B.int (by rfl) (ja_cons (j_cmp o_in (jv 7) (jv 4) (by rfl)) ja_nil)))))) ja_nil))) ja_nil)))))))))
abbrev s_law : Stmt := top 25
theorem sc_law : FnScope N_law ["_law_script"] (defScope s_law) := ⟨rfl, rfl, rfl, by decide +kernel, rfl, by decide +kernel, by decide +kernel⟩
theorem ok_law {f : Addr} {fd : FuncData} {sp : PSp} (F : Fun K "law" "law" s_law f fd) (B : Blt K mg) {sp_l_tape : PSp} (F_l_tape : Fn P w K mg base 1 "_law_tape" sp_l_tape) {sp_l_draw : PSp} (F_l_draw : Fn P w K mg base 1 "_law_draw" sp_l_draw) {sp_l_n : PSp} (F_l_n : Fn P w K mg base 2 "_law_n" sp_l_n) {sp_l_members : PSp} (F_l_members : Fn P w K mg base 2 "_law_members" sp_l_members) {sp_l_family : PSp} (F_l_family : Fn P w K mg base 2 "_law_family" sp_l_family) {sp_l_told : PSp} (F_l_told : Fn P w K mg base 5 "_law_told" sp_l_told) {sp_l_due : PSp} (F_l_due : Fn P w K mg base 3 "_law_due" sp_l_due) (len : ∀ vs S Q, sp vs S Q → vs.length = 1)
    (rd : ∀ vs S Q, sp vs S Q → w_law sp_l_tape sp_l_draw sp_l_n sp_l_members sp_l_family sp_l_told sp_l_due { nx := fun _ S' => Q .non S', rt := Q } (startP N_law vs) S) : FnOk P w K mg base CX0 6 f fd ["_law_script"] (liftSp K sp) := by
  refine def_ok (k := 5) F sc_law len ⟨w_law sp_l_tape sp_l_draw sp_l_n sp_l_members sp_l_family sp_l_told sp_l_due, fun cdv A outer s H E hr => ?_, rd⟩
  have nd := sc_law.nd
  exact (jss_cons (js_set 1 nd (j_call F_l_tape (hr.mono (by decide)) (ja_cons (jv 0) ja_nil)))
      (jss_cons (js_for (ji_range1 B.range (ja_cons j_int ja_nil)) (jg_name 2 nd) (jss_cons (js_set 3 nd (j_cmp (o_eq hr.units) (j_call F_l_draw (hr.mono (by decide)) (ja_cons (jv 1) (ja_cons j_int ja_nil))) j_int (nomark _)))
      (jss_cons (js_set 4 nd (j_if (jt_tru (jv 3)) j_int (j_call F_l_n (hr.mono (by decide)) (ja_cons (jv 1) (ja_cons j_int ja_nil)))))
      (jss_cons (js_set 5 nd (j_call F_l_members (hr.mono (by decide)) (ja_cons (jv 1) (ja_cons (jv 4) ja_nil))))
      (jss_cons (js_set 6 nd (j_call F_l_family (hr.mono (by decide)) (ja_cons (jv 4) (ja_cons (jv 5) ja_nil))))
      (jss_cons (js_set 7 nd (j_blt (b_repr hr.gd hr.units) B.repr (by rfl) (ja_cons (jv 6) ja_nil)))
      (jss_one (js_for (ji_range1 B.range (ja_cons (jv 4) ja_nil)) (jg_name 8 nd) (jss_one (js_for (ji_seq (j_tup (ja_cons j_bl (ja_cons j_bl (ja_cons j_bl (ja_cons j_bl ja_nil)))))) (jg_name 9 nd) (jss_cons (js_set 10 nd (j_call F_l_told (hr.mono (by decide)) (ja_cons (jv 9) (ja_cons (jv 6) (ja_cons (jv 8) ja_nil)))))
      (jss_one (js_if (JW.jt (jw_or (jt_cmp (o_ne hr.units) (j_blt (b_repr hr.gd hr.units) B.repr (by rfl) (ja_cons (jv 10) ja_nil)) (j_blt (b_repr hr.gd hr.units) B.repr (by rfl) (ja_cons (j_call F_l_due (hr.mono (by decide)) (ja_cons (jv 9) (ja_cons (jv 4) (ja_cons (jv 5) (ja_cons (jv 8) ja_nil))))) ja_nil)) (nomark _)) (jw_or1 (jt_cmp (o_ne hr.units) (j_blt (b_repr hr.gd hr.units) B.repr (by rfl) (ja_cons (jv 6) ja_nil)) (jv 7) (nomark _))))) (jss_one (js_ret j_bl)) jss_nil)))))))))))))
      (jss_one (js_ret j_bl))))
end
end k23

/-! Pure readings that all laws share. -/
namespace M
variable [Tabs]
open PySem L2
abbrev kC : Key := .inr (Str.ofString "cells")
abbrev kA : Key := .inr (Str.ofString "at")
abbrev kL : Key := .inr (Str.ofString "left")
abbrev kT : Key := .inr (Str.ofString "turn")
def feedD (c : Nat) (a l t : Int) : List (Key × PV) := [(kC, .ref c), (kA, .int a), (kL, .int l), (kT, .int t)]
section
variable (c : Nat) (a l t : Int)
end
/-- all but what lies at n is kept -/
structure Grow (n : Nat) (S S' : Sto) : Prop where
  keep : ∀ m o, m ≠ n → S[m]? = some o → S'[m]? = some o
  len : S.length ≤ S'.length
theorem Grow.refl (n : Nat) (S : Sto) : Grow n S S := ⟨fun _ _ _ h => h, Nat.le_refl _⟩
theorem Grow.trans {n : Nat} {S S1 S2 : Sto} (f : Grow n S S1) (g : Grow n S1 S2) : Grow n S S2 := ⟨fun m o h e => g.keep m o h (f.keep m o h e), Nat.le_trans f.len g.len⟩
theorem Grow.set {n : Nat} {S S1 : Sto} (f : Grow n S S1) (o : MO) : Grow n S (S1.set n o) := ⟨fun m u h e => by rw [List.getElem?_set_ne (Ne.symm h)]; exact f.keep m u h e, by rw [List.length_set]; exact f.len⟩
theorem Grow.app {n : Nat} {S S1 : Sto} (f : Grow n S S1) (X : Sto) : Grow n S (S1 ++ X) := ⟨fun m u h e => by
  have := f.keep m u h e
  rw [List.getElem?_append_left (List.getElem?_eq_some_iff.mp this).1]; exact this, by rw [List.length_append]; have := f.len; omega⟩
/-- the feed lies at n, at most T draws are done -/
structure Feed (S : Sto) (n T : Nat) : Prop where
  ex : ∃ (c : Nat) (a l t : Int) (ns : List Int), S[n]? = some (.dct (feedD c a l t)) ∧ S[c]? = some (.lst (ns.map PV.int)) ∧ ns.length ≤ 63 ∧ 0 ≤ a ∧ 0 ≤ l ∧ 0 ≤ t ∧ t ≤ T ∧ c < n
theorem Feed.app {S : Sto} {n T : Nat} (f : Feed S n T) (X : Sto) : Feed (S ++ X) n T := by
  obtain ⟨c, a, l, t, ns, h1, h2, r⟩ := f.ex
  exact ⟨c, a, l, t, ns, by rw [List.getElem?_append_left (List.getElem?_eq_some_iff.mp h1).1]; exact h1, by rw [List.getElem?_append_left (List.getElem?_eq_some_iff.mp h2).1]; exact h2, r⟩
theorem Feed.mono {S : Sto} {n T T' : Nat} (f : Feed S n T) (h : T ≤ T') : Feed S n T' := by
  obtain ⟨c, a, l, t, ns, h1, h2, h3, h4, h5, h6, h7, h8⟩ := f.ex
  exact ⟨c, a, l, t, ns, h1, h2, h3, h4, h5, h6, by omega, h8⟩
theorem Feed.lt {S : Sto} {n T : Nat} (f : Feed S n T) : n < S.length := by
  obtain ⟨c, a, l, t, ns, h1, _⟩ := f.ex
  exact (List.getElem?_eq_some_iff.mp h1).1
theorem pdts_ints (S : Sto) : ∀ ns : List Int, PDts S (ns.map PV.int) (ns.map PyData.int)
  | [] => .nil
  | n :: ns => .cons (.int n) (pdts_ints S ns)
theorem canLay_ints : ∀ ns : List Int, PyData.canLayAll0 (ns.map PyData.int) = true
  | [] => rfl
  | n :: ns => by simp only [List.map_cons, PyData.canLayAll0, PyData.canLay0, canLay_ints ns, Bool.and_self]
theorem depth_ints : ∀ ns : List Int, PyData.depthAll (ns.map PyData.int) = 0
  | [] => rfl
  | n :: ns => by simp only [List.map_cons, PyData.depthAll, PyData.depth, depth_ints ns, Nat.max_self]
theorem shaped_ints (ns : List Int) : SeqAt.shaped (.list (ns.map PyData.int)) = true := by
  simp only [SeqAt.shaped, PyData.canLay0, canLay_ints, PyData.depth, depth_ints, Bool.true_and]; decide
theorem atI_mod {xs : List PV} {i : Int} {p : PV} (h0 : 0 ≤ i) (h : xs[i.toNat]? = some p) : atI xs i = some p := by
  have hl := (List.getElem?_eq_some_iff.mp h).1
  unfold atI ixN
  rw [if_pos h0, if_pos (by omega)]
  exact h
theorem cut63 (ns : List Int) (h : ns.length ≤ 63) : cutP (ns.map PV.int) none (some 63) = ns.map PV.int := by
  unfold cutP
  have e : HT.sIx (ns.map PV.int).length 0 none = 0 := rfl
  have e2 : HT.sIx (ns.map PV.int).length (ns.map PV.int).length (some 63) = ns.length := by
    rw [List.length_map]
    have := HT.sIx_nat ns.length ns.length 63
    rw [show ((63 : Nat) : Int) = 63 from rfl] at this
    rw [this]
    omega
  rw [e, e2, List.drop_zero, Nat.sub_zero, List.take_of_length_le (by rw [List.length_map]; exact Nat.le_refl _)]
end M

/-! Data that is written out: how long its text is. -/
namespace M
variable [Tabs]
open PySem L2

mutual
def up : PyData → Nat
  | .none => 4
  | .bool _ => 5
  | .int i => (toString i : Str).length
  | .str x => (reprText x).length
  | .list ds => upAll ds + 3
  | .tuple ds => upAll ds + 3
  | .dict _ => 0
def upAll : List PyData → Nat
  | [] => 0
  | d :: ds => up d + 2 + upAll ds
end
theorem upAll_nil : upAll [] = 0 := by simp only [upAll]
theorem upAll_cons (d : PyData) (ds : List PyData) : upAll (d :: ds) = up d + 2 + upAll ds := by simp only [upAll]
theorem up_tuple (ds : List PyData) : up (.tuple ds) = upAll ds + 3 := by simp only [up]
theorem up_list (ds : List PyData) : up (.list ds) = upAll ds + 3 := by simp only [up]
theorem upAll_append : ∀ xs ys : List PyData, upAll (xs ++ ys) = upAll xs + upAll ys
  | [], ys => by rw [List.nil_append, upAll_nil, Nat.zero_add]
  | x :: xs, ys => by rw [List.cons_append, upAll_cons, upAll_cons, upAll_append xs ys]; omega
theorem textFrom_up : ∀ (ts : List Str) (k : Nat) (acc : Str), (textFrom k acc ts).length ≤ acc.length + piled ts
  | [], k, acc => by show acc.length ≤ _; rw [piled_nil]; omega
  | t :: ts, k, acc => by
    have ih := textFrom_up ts (k + 1) (acc ++ (if k > 0 then ", " else "" : String) ++ t)
    have e : (acc ++ (if k > 0 then ", " else "" : String) ++ t).length = acc.length + (if k > 0 then 2 else 0) + t.length := by
      rw [strLen_append, strLen_append]
      split <;> rfl
    rw [e] at ih
    show (textFrom (k + 1) _ ts).length ≤ _
    rw [piled_cons]
    have e2 : (if k > 0 then 2 else 0) ≤ 2 := by split <;> omega
    omega
theorem listText_up (ts : List Str) : (listText ts).length ≤ piled ts + 2 := by
  unfold listText
  rw [strLen_append]
  have h := textFrom_up ts 0 "["
  have e1 : ((("[" : String) : Str)).length = 1 := rfl
  have e2 : ((("]" : String) : Str)).length = 1 := rfl
  omega
theorem tupleText_up (ts : List Str) : (tupleText ts).length ≤ piled ts + 3 := by
  unfold tupleText
  rw [strLen_append, strLen_append]
  have e1 : ((("(" : String) : Str)).length = 1 := rfl
  have e3 : (((if ts.length == 1 then ",)" else ")" : String) : Str)).length ≤ 2 := by split <;> decide
  by_cases h : ts = []
  · subst h
    have : (Str.join ", " []).length = 0 := rfl
    omega
  · have := join_length_add ts h
    omega
mutual
theorem shown_up : ∀ d : PyData, d.hasDict = false → d.shown.length ≤ up d
  | .none, _ => by simp only [PyData.shown, up]; decide
  | .bool b, _ => by simp only [PyData.shown, up]; cases b <;> decide
  | .int i, _ => by simp only [PyData.shown, up]; exact Nat.le_refl _
  | .str x, _ => by simp only [PyData.shown, up]; exact Nat.le_refl _
  | .list ds, h => by
    simp only [PyData.hasDict] at h
    simp only [PyData.shown, up]
    have h1 := listText_up (PyData.shownAll ds)
    have h2 := shownAll_up ds h
    omega
  | .tuple ds, h => by
    simp only [PyData.hasDict] at h
    simp only [PyData.shown, up]
    have h1 := tupleText_up (PyData.shownAll ds)
    have h2 := shownAll_up ds h
    omega
  | .dict _, h => by simp only [PyData.hasDict] at h; cases h
theorem shownAll_up : ∀ ds : List PyData, PyData.hasDictAll ds = false → piled (PyData.shownAll ds) ≤ upAll ds
  | [], _ => by simp only [PyData.shownAll, piled_nil]; omega
  | d :: ds, h => by
    simp only [PyData.hasDictAll, Bool.or_eq_false_iff] at h
    simp only [PyData.shownAll, piled_cons, upAll_cons]
    have h1 := shown_up d h.1
    have h2 := shownAll_up ds h.2
    omega
end
mutual
theorem PDt.noDict {S : Sto} : ∀ {p : PV} {d : PyData}, PDt S p d → d.hasDict = false
  | _, _, .non => by simp only [PyData.hasDict]
  | _, _, .bl _ => by simp only [PyData.hasDict]
  | _, _, .int _ => by simp only [PyData.hasDict]
  | _, _, .str _ => by simp only [PyData.hasDict]
  | _, _, .lst _ h => by simp only [PyData.hasDict]; exact PDts.noDict h
  | _, _, .tup h => by simp only [PyData.hasDict]; exact PDts.noDict h
theorem PDts.noDict {S : Sto} : ∀ {ps : List PV} {ds : List PyData}, PDts S ps ds → PyData.hasDictAll ds = false
  | _, _, .nil => by simp only [PyData.hasDictAll]
  | _, _, .cons h t => by simp only [PyData.hasDictAll, PDt.noDict h, PDts.noDict t, Bool.or_self]
end
/-! ### written data in a store that grows -/
theorem SL.grow {n : Nat} {S S' : Sto} {m : Nat} {xs : List PV} (g : Grow n S S') (hn : ∀ xs, ¬ SL S n xs) (h : SL S m xs) : SL S' m xs := by
  have hm : m ≠ n := by rintro rfl; exact hn xs h
  rcases h with h | h
  · exact .inl (g.keep m _ hm h)
  · exact .inr (g.keep m _ hm h)
mutual
theorem PDt.mv {S S' : Sto} (f : ∀ (m : Nat) (xs : List PV), SL S m xs → SL S' m xs) : ∀ {p : PV} {d : PyData}, PDt S p d → PDt S' p d
  | _, _, .non => .non
  | _, _, .bl b => .bl b
  | _, _, .int i => .int i
  | _, _, .str x => .str x
  | _, _, .lst h t => .lst (f _ _ h) (PDts.mv f t)
  | _, _, .tup t => .tup (PDts.mv f t)
theorem PDts.mv {S S' : Sto} (f : ∀ (m : Nat) (xs : List PV), SL S m xs → SL S' m xs) : ∀ {ps : List PV} {ds : List PyData}, PDts S ps ds → PDts S' ps ds
  | _, _, .nil => .nil
  | _, _, .cons h t => .cons (PDt.mv f h) (PDts.mv f t)
end
theorem Feed.nosl {S : Sto} {n T : Nat} (f : Feed S n T) : ∀ xs, ¬ SL S n xs := by
  obtain ⟨c, a, l, t, ns, h1, _⟩ := f.ex
  rintro xs (h | h) <;> (rw [h1] at h; cases h)
theorem SL.app {S : Sto} (X : Sto) {m : Nat} {xs : List PV} (h : SL S m xs) : SL (S ++ X) m xs := by
  rcases h with h | h
  · exact .inl (by rw [List.getElem?_append_left (List.getElem?_eq_some_iff.mp h).1]; exact h)
  · exact .inr (by rw [List.getElem?_append_left (List.getElem?_eq_some_iff.mp h).1]; exact h)
theorem PDt.app {S : Sto} (X : Sto) {p : PV} {d : PyData} (h : PDt S p d) : PDt (S ++ X) p d := h.mv fun _ _ => SL.app X
theorem PDt.grow {S S' : Sto} {n T : Nat} (F : Feed S n T) (g : Grow n S S') {p : PV} {d : PyData} (h : PDt S p d) : PDt S' p d := h.mv fun _ _ z => z.grow g F.nosl
section
variable {S : Sto}
theorem PDts.append : ∀ {ps qs : List PV} {ds es : List PyData}, PDts S ps ds → PDts S qs es → PDts S (ps ++ qs) (ds ++ es)
  | _, _, _, _, .nil, s => s
  | _, _, _, _, .cons r t, s => .cons r (PDts.append t s)
theorem PDts.take : ∀ {ps : List PV} {ds : List PyData} (n : Nat), PDts S ps ds → PDts S (ps.take n) (ds.take n)
  | _, _, 0, _ => .nil
  | _, _, _ + 1, .nil => .nil
  | _, _, n + 1, .cons r t => .cons r (PDts.take n t)
theorem PDts.drop : ∀ {ps : List PV} {ds : List PyData} (n : Nat), PDts S ps ds → PDts S (ps.drop n) (ds.drop n)
  | _, _, 0, r => r
  | _, _, _ + 1, .nil => .nil
  | _, _, n + 1, .cons _ t => PDts.drop n t
theorem PDts.length : ∀ {ps : List PV} {ds : List PyData}, PDts S ps ds → ps.length = ds.length
  | _, _, .nil => rfl
  | _, _, .cons _ t => by rw [List.length_cons, List.length_cons, PDts.length t]
theorem PDts.mem : ∀ {ps : List PV} {ds : List PyData}, PDts S ps ds → ∀ p ∈ ps, ∃ d, PDt S p d
  | _, _, .nil, p, h => by cases h
  | _, _, .cons r t, p, h => by
    rcases List.mem_cons.mp h with rfl | h
    · exact ⟨_, r⟩
    · exact PDts.mem t p h
theorem PDts.get : ∀ {ps : List PV} {ds : List PyData} {i : Nat} {p : PV}, PDts S ps ds → ps[i]? = some p → ∃ d, ds[i]? = some d ∧ PDt S p d
  | _, _, _, _, .nil, e => by simp at e
  | _, _, 0, _, .cons r _, e => by simp at e; subst e; exact ⟨_, rfl, r⟩
  | _, _, i + 1, p, .cons _ t, e => by
    obtain ⟨v, h1, h2⟩ := PDts.get (i := i) (p := p) t (by simpa using e)
    exact ⟨v, by simpa using h1, h2⟩
end
/-- small data: it can be shown, it isn't deep, its text isn't long -/
structure SmD (B D : Nat) (d : PyData) : Prop where
  sh : d.showable = true
  dp : d.depth ≤ D
  up : up d ≤ B
structure SmDs (B D : Nat) (ds : List PyData) : Prop where
  sh : PyData.showableAll ds = true
  dp : PyData.depthAll ds ≤ D
  up : upAll ds ≤ B
theorem SmDs.nil : SmDs 0 0 [] := ⟨rfl, Nat.le_refl _, Nat.le_refl _⟩
theorem SmDs.cons {B B' D : Nat} {d : PyData} {ds : List PyData} (h : SmD B D d) (t : SmDs B' D ds) : SmDs (B + 2 + B') D (d :: ds) :=
  ⟨by simp only [PyData.showableAll, h.sh, t.sh, Bool.and_self], by simp only [PyData.depthAll]; have := h.dp; have := t.dp; omega, by rw [upAll_cons]; have := h.up; have := t.up; omega⟩
theorem SmD.mono {B B' D D' : Nat} {d : PyData} (h : SmD B D d) (hB : B ≤ B') (hD : D ≤ D') : SmD B' D' d := ⟨h.sh, Nat.le_trans h.dp hD, Nat.le_trans h.up hB⟩
theorem SmDs.mono {B B' D D' : Nat} {ds : List PyData} (h : SmDs B D ds) (hB : B ≤ B') (hD : D ≤ D') : SmDs B' D' ds := ⟨h.sh, Nat.le_trans h.dp hD, Nat.le_trans h.up hB⟩
theorem showableAll_append : ∀ xs ys : List PyData, PyData.showableAll (xs ++ ys) = (PyData.showableAll xs && PyData.showableAll ys)
  | [], ys => by simp only [List.nil_append, PyData.showableAll, Bool.true_and]
  | x :: xs, ys => by simp only [List.cons_append, PyData.showableAll, showableAll_append xs ys, Bool.and_assoc]
theorem depthAll_append : ∀ xs ys : List PyData, PyData.depthAll (xs ++ ys) = max (PyData.depthAll xs) (PyData.depthAll ys)
  | [], ys => by simp only [List.nil_append, PyData.depthAll]; omega
  | x :: xs, ys => by simp only [List.cons_append, PyData.depthAll, depthAll_append xs ys]; omega
theorem SmDs.append {B B' D : Nat} {xs ys : List PyData} (h : SmDs B D xs) (t : SmDs B' D ys) : SmDs (B + B') D (xs ++ ys) :=
  ⟨by rw [showableAll_append, h.sh, t.sh]; rfl, by rw [depthAll_append]; have := h.dp; have := t.dp; omega, by rw [upAll_append]; have := h.up; have := t.up; omega⟩
theorem SmDs.of_append {B D : Nat} {xs ys : List PyData} (h : SmDs B D (xs ++ ys)) : SmDs (upAll xs) D xs ∧ SmDs (upAll ys) D ys := by
  have h1 := h.sh
  rw [showableAll_append, Bool.and_eq_true] at h1
  have h2 := h.dp
  rw [depthAll_append] at h2
  exact ⟨⟨h1.1, by omega, Nat.le_refl _⟩, ⟨h1.2, by omega, Nat.le_refl _⟩⟩
theorem SmDs.take {B D : Nat} {ds : List PyData} (h : SmDs B D ds) (i : Nat) : SmDs (upAll (ds.take i)) D (ds.take i) := (SmDs.of_append (xs := ds.take i) (ys := ds.drop i) (by rw [List.take_append_drop]; exact h)).1
theorem SmDs.drop {B D : Nat} {ds : List PyData} (h : SmDs B D ds) (i : Nat) : SmDs (upAll (ds.drop i)) D (ds.drop i) := (SmDs.of_append (xs := ds.take i) (ys := ds.drop i) (by rw [List.take_append_drop]; exact h)).2
theorem SmD.tuple {B D : Nat} {ds : List PyData} (h : SmDs B D ds) : SmD (B + 3) (D + 1) (.tuple ds) := ⟨by simp only [PyData.showable]; exact h.sh, by simp only [PyData.depth]; have := h.dp; omega, by rw [up_tuple]; have := h.up; omega⟩
theorem SmD.list {B D : Nat} {ds : List PyData} (h : SmDs B D ds) : SmD (B + 3) (D + 1) (.list ds) := ⟨by simp only [PyData.showable]; exact h.sh, by simp only [PyData.depth]; have := h.dp; omega, by rw [up_list]; have := h.up; omega⟩
theorem repr_len {S : Sto} {p : PV} {d : PyData} {B D : Nat} (h : PDt S p d) (s : SmD B D d) (hB : B ≤ 1000000) : d.shown.length ≤ sizeLine := Nat.le_trans (Nat.le_trans (shown_up d h.noDict) s.up) (Nat.le_trans hB (by decide))
/-! ### list comprehensions that change nothing -/
theorem runLc_pure {C : Sto → Prop} {i : Nat} {t : WT} {e : WE} {f : PV → PV} {g : PV → Bool} {fr : Fr} {S : Sto} {Q : List PV → Sto → Prop} (hC : C S) : ∀ (xs acc : List PV),
    (∀ x ∈ xs, ∀ Q' : Bool → Sto → Prop, Q' (g x) S → t (fr.set i (some x)) S Q') → (∀ x ∈ xs, g x = true → ∀ Q' : Post, Q' (f x) S → e (fr.set i (some x)) S Q') → acc.length + xs.length < 1000000 → Q (acc ++ (xs.filter g).map f) S → runLc C i t e xs fr S acc Q
  | [], acc, _, _, _, q => ⟨hC, by simpa using q⟩
  | x :: xs, acc, ht, he, hl, q => by
    refine ⟨hC, ht x List.mem_cons_self _ ?_⟩
    rw [List.length_cons] at hl
    cases hg : g x with
    | true =>
      refine iteT (he x List.mem_cons_self hg _ ⟨Nat.lt_of_le_of_lt (show acc.length ≤ 1000000 by omega) (by decide), ?_⟩)
      refine runLc_pure hC xs _ (fun y hy => ht y (List.mem_cons_of_mem _ hy)) (fun y hy => he y (List.mem_cons_of_mem _ hy)) (by rw [List.length_append, List.length_singleton]; omega) ?_
      rw [List.filter_cons, hg] at q
      simpa using q
    | false =>
      refine iteF ?_
      refine runLc_pure hC xs _ (fun y hy => ht y (List.mem_cons_of_mem _ hy)) (fun y hy => he y (List.mem_cons_of_mem _ hy)) (by omega) ?_
      rw [List.filter_cons, hg] at q
      simpa using q
theorem runLc_map {C : Sto → Prop} {i : Nat} {e : WE} {f : PV → PV} {fr : Fr} {S : Sto} {Q : List PV → Sto → Prop} (hC : C S) (xs : List PV) (he : ∀ x ∈ xs, ∀ Q' : Post, Q' (f x) S → e (fr.set i (some x)) S Q') (hl : xs.length < 1000000) (q : Q (xs.map f) S) : runLc C i wYes e xs fr S [] Q :=
  runLc_pure (g := fun _ => true) hC xs [] (fun _ _ _ h => h) (fun x hx _ => he x hx) (by simpa using hl) (by rw [List.filter_eq_self.mpr (fun _ _ => rfl)]; simpa using q)
/-- a walk, by what holds ahead of each turn -/
theorem runIts_by {g : WG} {b : WS} {D : PD} (I : List PV → Fr → Sto → Prop) (fin : ∀ fr S, I [] fr S → D.nx fr S)
    (step : ∀ (x : PV) (r : List PV) (fr : Fr) (S : Sto) (K : Fr → Sto → Prop), (∀ fr S, I r fr S → K fr S) → I (x :: r) fr S → g x fr S fun fr1 S1 => b ⟨K, D.rt, D.nx, K⟩ fr1 S1) : ∀ (xs : List PV) (fr : Fr) (S : Sto), I xs fr S → runIts g b xs D fr S
  | [], fr, S, h => fin fr S h
  | x :: r, fr, S, h => step x r fr S _ (fun fr S h => runIts_by I fin step r fr S h) h
end M

/-! SETs of places, and the program's functions of two SETs. -/
namespace M
variable [Tabs]
open PySem L2

abbrev iv (xs : List Int) : List PV := xs.map PV.int
theorem iv_flat : ∀ xs : List Int, (iv xs).all flatP = true
  | [] => rfl
  | x :: xs => by show (flatP (.int x) && (iv xs).all flatP) = true; rw [iv_flat xs]; rfl
theorem iv_in (x : Int) : ∀ ys : List Int, inP (.int x) (iv ys) = decide (x ∈ ys)
  | [] => by simp [inP]
  | y :: ys => by
    show (eqP (.int y) (.int x) || inP (.int x) (iv ys)) = _
    rw [iv_in x ys]
    show ((y == x) || decide (x ∈ ys)) = _
    by_cases h : y = x
    · subst h; simp
    · have : (y == x) = false := by simpa using h
      rw [this, Bool.false_or]
      have h2 : ¬ x = y := fun z => h z.symm
      simp [h2]
theorem iv_filter (g : Int → Bool) (h : PV → Bool) (e : ∀ i, h (.int i) = g i) : ∀ xs : List Int, (iv xs).filter h = iv (xs.filter g)
  | [] => rfl
  | x :: xs => by
    show List.filter h (PV.int x :: iv xs) = _
    rw [List.filter_cons, e x, iv_filter g h e xs, List.filter_cons]
    cases g x <;> rfl
theorem mem_iv {xs : List Int} {p : PV} (h : p ∈ iv xs) : ∃ i, p = .int i ∧ i ∈ xs := by
  obtain ⟨i, hi, rfl⟩ := List.mem_map.mp h
  exact ⟨i, rfl, hi⟩
theorem sl_end (S : Sto) (ys : List PV) : SL (S ++ [MO.lst ys]) S.length ys := .inl (by rw [List.getElem?_append_right (Nat.le_refl _)]; simp)

/-! ### is_within, do_meet, taken_from, shared_by, put_together -/
def w1_taken : WS := (wRet (wCall pTuple (wCons (wLc 2 (wISeq (wVar 0)) (wB (wOp (bIn true) (wVar 2) (wVar 1))) (wVar 2)) wNil)))
def N1_two : List Str := ["one", "other", "place"]
def within (xs ys : List Int) : Bool := xs.all fun x => decide (x ∈ ys)
def meets (xs ys : List Int) : Bool := xs.any fun x => decide (x ∈ ys)
def taken (xs ys : List Int) : List Int := xs.filter fun x => !decide (x ∈ ys)
def sp1_taken : PSp := fun vs S Q => ∃ xs ys, vs = [.tup (iv xs), .tup (iv ys)] ∧ xs.length < 1000 ∧ ∀ X, Q (.tup (iv (taken xs ys))) (S ++ X)
theorem len1_taken : ∀ vs S Q, sp1_taken vs S Q → vs.length = 2 := by rintro _ S Q ⟨xs, ys, rfl, _⟩; rfl
theorem rd1_taken : ∀ vs S Q, sp1_taken vs S Q → w1_taken { nx := fun _ S' => Q .non S', rt := Q } (startP N1_two vs) S := by
  rintro _ S Q ⟨xs, ys, rfl, hl, q⟩
  refine ⟨_, rfl, ?_⟩
  refine runLc_pure (f := fun x => x) (g := fun p => !inP p (iv ys)) trivial (iv xs) [] (fun x hx Q' q' => ?_) (fun x hx _ Q' q' => ⟨_, rfl, q'⟩) (by rw [List.length_map, List.length_nil]; omega) ?_
  · obtain ⟨i, rfl, _⟩ := mem_iv hx
    exact ⟨_, rfl, _, rfl, iv ys, rfl, rfl, iv_flat ys, _, rfl, q'⟩
  · rw [List.nil_append, List.map_id', iv_filter (fun x => !decide (x ∈ ys)) _ fun i => by rw [iv_in]]
    exact ⟨_, sl_end _ _, q _⟩
theorem taken_length (xs ys : List Int) : (taken xs ys).length ≤ xs.length := List.length_filter_le _ _
/-! ### sets by their bits -/
def bset (n c : Nat) : List Int := ((List.range n).filter fun p => c.testBit p).map fun p : Nat => (p : Int)
theorem mem_bset {n c : Nat} {x : Int} : x ∈ bset n c ↔ ∃ p : Nat, x = p ∧ p < n ∧ c.testBit p = true := by
  unfold bset
  rw [List.mem_map]
  constructor
  · rintro ⟨p, hp, rfl⟩
    obtain ⟨h1, h2⟩ := List.mem_filter.mp hp
    exact ⟨p, rfl, List.mem_range.mp h1, h2⟩
  · rintro ⟨p, rfl, h1, h2⟩
    exact ⟨p, List.mem_filter.mpr ⟨List.mem_range.mpr h1, h2⟩, rfl⟩
theorem bset_sorted (n c : Nat) : (bset n c).Pairwise (· < ·) := by
  unfold bset
  rw [List.pairwise_map]
  refine List.Pairwise.filter _ ?_
  exact List.Pairwise.imp (fun h => by omega) (List.pairwise_lt_range (n := n))
theorem bset_length (n c : Nat) : (bset n c).length ≤ n := by
  unfold bset
  rw [List.length_map]
  have := List.length_filter_le (fun p => c.testBit p) (List.range n)
  rw [List.length_range] at this
  exact this
theorem sorted_ext : ∀ {xs ys : List Int}, xs.Pairwise (· < ·) → ys.Pairwise (· < ·) → (∀ x, x ∈ xs ↔ x ∈ ys) → xs = ys := fun {xs ys} hx hy h => by
  have nd : ∀ {l : List Int}, l.Pairwise (· < ·) → l.Nodup := fun hl => hl.imp fun h => by omega
  have hp : xs.Perm ys := (List.perm_ext_iff_of_nodup (nd hx) (nd hy)).mpr h
  exact hp.eq_of_pairwise (fun a b _ _ h1 h2 => by omega) hx hy
/-- the bits of a comprehension over range -/
theorem bit_test (c p : Nat) : decide (Builtin.bitAnd ((c : Int) / 2 ^ (((p : Nat) : Int).toNat)) 1 = 1) = c.testBit p := by
  have e : (c : Int) / 2 ^ (((p : Nat) : Int).toNat) = ((c / 2 ^ p : Nat) : Int) := by
    rw [Int.toNat_natCast]; norm_cast
  rw [e]
  unfold Builtin.bitAnd
  have h1 : decide ((0 : Int) ≤ ((c / 2 ^ p : Nat) : Int)) = true := decide_eq_true (Int.natCast_nonneg _)
  have h2 : decide ((0 : Int) ≤ 1) = true := by decide
  rw [h1, h2]
  show decide ((((((c / 2 ^ p : Nat) : Int).toNat &&& (1 : Int).toNat : Nat)) : Int) = 1) = _
  rw [Int.toNat_natCast]
  show decide (((c / 2 ^ p &&& 1 : Nat) : Int) = 1) = _
  rw [Nat.and_one_is_mod, Nat.testBit, Nat.shiftRight_eq_div_pow, Nat.one_and_eq_mod_two]
  rcases Nat.mod_two_eq_zero_or_one (c / 2 ^ p) with h | h <;> rw [h] <;> rfl
theorem bitAnd_nat (a b : Nat) : Builtin.bitAnd (a : Int) (b : Int) = ((a &&& b : Nat) : Int) := by
  unfold Builtin.bitAnd
  rw [decide_eq_true (show (0 : Int) ≤ a by omega), decide_eq_true (show (0 : Int) ≤ b by omega)]
  rfl
theorem sm_int {i : Int} (h0 : -1 ≤ i) (h1 : i ≤ 9) : SmD 60 3 (.int i) := by
  have h : i = -1 ∨ i = 0 ∨ i = 1 ∨ i = 2 ∨ i = 3 ∨ i = 4 ∨ i = 5 ∨ i = 6 ∨ i = 7 ∨ i = 8 ∨ i = 9 := by omega
  rcases h with rfl | rfl | rfl | rfl | rfl | rfl | rfl | rfl | rfl | rfl | rfl <;> exact ⟨by decide +kernel, by decide +kernel, by decide +kernel⟩
theorem ints_sm (S : Sto) : ∀ ys : List PV, (∀ y ∈ ys, ∃ i : Int, y = .int i ∧ 0 ≤ i ∧ i ≤ 9) → ∃ ds, PDts S ys ds ∧ SmDs (62 * ys.length) 3 ds
  | [], _ => ⟨[], .nil, SmDs.nil.mono (Nat.zero_le _) (by decide)⟩
  | y :: ys, h => by
    obtain ⟨ds, h1, h2⟩ := ints_sm S ys fun z hz => h z (List.mem_cons_of_mem _ hz)
    obtain ⟨i, rfl, h3, h4⟩ := h y List.mem_cons_self
    exact ⟨_, .cons (.int i) h1, (SmDs.cons (sm_int (by omega) h4) h2).mono (by rw [List.length_cons]; omega) (Nat.le_refl _)⟩
/-- a SET's data -/
abbrev dts (xs : List Int) : List PyData := xs.map PyData.int
theorem pd_iv (S : Sto) (xs : List Int) : PDts S (iv xs) (dts xs) := pdts_ints S xs
theorem sm_iv (xs : List Int) (h : ∀ x ∈ xs, 0 ≤ x ∧ x ≤ 9) : SmDs (62 * xs.length) 3 (dts xs) := by
  obtain ⟨ds, h1, h2⟩ := ints_sm [] (iv xs) fun y hy => by
    obtain ⟨i, rfl, hi⟩ := mem_iv hy
    exact ⟨i, rfl, h i hi⟩
  have e : ds = dts xs := by
    clear h2 h
    induction xs generalizing ds with
    | nil => cases h1; rfl
    | cons x xs ih => cases h1 with | cons a b => cases a; rw [ih _ b]; rfl
  subst e
  rw [List.length_map] at h2
  exact h2
theorem bset_small {n c : Nat} (hn : n ≤ 10) : ∀ x ∈ bset n c, 0 ≤ x ∧ x ≤ 9 := fun x hx => by
  obtain ⟨p, rfl, h1, _⟩ := mem_bset.mp hx
  omega
/-! what the functions of two SETs come to, by bits -/
section
variable {n a b : Nat}
theorem mem_bset' {p : Nat} : ((p : Int) ∈ bset n a) ↔ (p < n ∧ a.testBit p = true) := by
  rw [mem_bset]
  constructor
  · rintro ⟨q, e, h⟩
    have : p = q := by omega
    subst this
    exact h
  · exact fun h => ⟨p, rfl, h⟩
theorem eq_of_bits (ha : a < 2 ^ n) (hb : b < 2 ^ n) (h : ∀ p, p < n → a.testBit p = b.testBit p) : a = b := by
  refine Nat.eq_of_testBit_eq fun p => ?_
  by_cases hp : p < n
  · exact h p hp
  · rw [Nat.testBit_lt_two_pow (Nat.lt_of_lt_of_le ha (Nat.pow_le_pow_right (by decide) (by omega))), Nat.testBit_lt_two_pow (Nat.lt_of_lt_of_le hb (Nat.pow_le_pow_right (by decide) (by omega)))]
theorem within_bset (ha : a < 2 ^ n) : within (bset n a) (bset n b) = decide (a &&& b = a) := by
  have e : (within (bset n a) (bset n b) = true) ↔ a &&& b = a := by
    unfold within
    rw [List.all_eq_true]
    constructor
    · intro h
      refine eq_of_bits (n := n) (Nat.lt_of_le_of_lt Nat.and_le_left ha) ha fun p hp => ?_
      rw [Nat.testBit_and]
      cases hx : a.testBit p with
      | false => rfl
      | true =>
        have := h p (mem_bset'.mpr ⟨hp, hx⟩)
        rw [decide_eq_true_iff, mem_bset'] at this
        rw [this.2]; rfl
    · intro h x hx
      obtain ⟨p, rfl, h1, h2⟩ := mem_bset.mp hx
      rw [decide_eq_true_iff, mem_bset']
      refine ⟨h1, ?_⟩
      rw [← h, Nat.testBit_and, Bool.and_eq_true] at h2
      exact h2.2
  by_cases h : a &&& b = a
  · rw [decide_eq_true h]; exact e.mpr h
  · rw [decide_eq_false h]
    cases hw : within (bset n a) (bset n b) with
    | false => rfl
    | true => exact absurd (e.mp hw) h
theorem add_or : ∀ (x y : Nat), x &&& y = 0 → x + y = x ||| y := fun x => by
  induction x using Nat.strongRecOn with
  | ind x ih =>
    intro y h
    by_cases hx : x = 0
    · subst hx; simp
    · have h2 : x / 2 &&& y / 2 = 0 := by rw [← Nat.and_div_two, h]
      have i := ih (x / 2) (by omega) (y / 2) h2
      have o : (x ||| y) / 2 = x / 2 ||| y / 2 := Nat.or_div_two
      have m : (x ||| y) % 2 = x % 2 ||| y % 2 := Nat.or_mod_two_pow (n := 1)
      have m2 : x % 2 &&& y % 2 = 0 := by
        have : (x &&& y) % 2 = x % 2 &&& y % 2 := Nat.and_mod_two_pow (n := 1)
        rw [← this, h]
      have m3 : x % 2 ||| y % 2 = x % 2 + y % 2 := by
        rcases Nat.mod_two_eq_zero_or_one x with e1 | e1 <;> rcases Nat.mod_two_eq_zero_or_one y with e2 | e2 <;> rw [e1, e2] at m2 ⊢ <;> first | rfl | (exact absurd m2 (by decide))
      omega
theorem sub_and_bit (a b p : Nat) : (a - (a &&& b)).testBit p = (a.testBit p && !b.testBit p) := by
  have e : a - (a &&& b) = a ^^^ (a &&& b) := by
    have h : a = (a &&& b) + (a ^^^ (a &&& b)) := by
      have hd : (a &&& b) &&& (a ^^^ (a &&& b)) = 0 := by
        refine Nat.eq_of_testBit_eq fun i => ?_
        rw [Nat.testBit_and, Nat.testBit_xor, Nat.testBit_and, Nat.zero_testBit]
        cases a.testBit i <;> cases b.testBit i <;> rfl
      have ho : (a &&& b) ||| (a ^^^ (a &&& b)) = a := by
        refine Nat.eq_of_testBit_eq fun i => ?_
        rw [Nat.testBit_or, Nat.testBit_xor, Nat.testBit_and]
        cases a.testBit i <;> cases b.testBit i <;> rfl
      have := add_or _ _ hd
      rw [ho] at this
      exact this.symm
    omega
  rw [e, Nat.testBit_xor, Nat.testBit_and]
  cases a.testBit p <;> cases b.testBit p <;> rfl
end
theorem get_end (S : Sto) (o : MO) : (S ++ [o])[S.length]? = some o := by rw [List.getElem?_append_right (Nat.le_refl _)]; simp
end M

namespace M
open PySem L2
variable [Tabs]
/-- nothing is changed, more may lie there -/
structure Ext (S S' : Sto) : Prop where
  keep : ∀ (m : Nat) (o : MO), S[m]? = some o → S'[m]? = some o
  len : S.length ≤ S'.length
theorem Ext.refl (S : Sto) : Ext S S := ⟨fun _ _ h => h, Nat.le_refl _⟩
theorem Ext.trans {S S1 S2 : Sto} (f : Ext S S1) (g : Ext S1 S2) : Ext S S2 := ⟨fun m o e => g.keep m o (f.keep m o e), Nat.le_trans f.len g.len⟩
theorem Ext.app (S X : Sto) : Ext S (S ++ X) := ⟨fun m o e => by rw [List.getElem?_append_left (List.getElem?_eq_some_iff.mp e).1]; exact e, by rw [List.length_append]; omega⟩
theorem Ext.sl {S S' : Sto} (f : Ext S S') {n : Nat} {xs : List PV} (h : SL S n xs) : SL S' n xs := h.imp (f.keep _ _) (f.keep _ _)
theorem Ext.grow {S S' : Sto} (f : Ext S S') (n : Nat) : Grow n S S' := ⟨fun m o _ e => f.keep m o e, f.len⟩
theorem Feed.ext {S S' : Sto} {n T : Nat} (F : Feed S n T) (f : Ext S S') : Feed S' n T := by
  obtain ⟨c, a, l, t, ns, h1, h2, r⟩ := F.ex
  exact ⟨c, a, l, t, ns, f.keep _ _ h1, f.keep _ _ h2, r⟩
/-- a change of what was laid behind S is none to S -/
theorem Ext.set {S S' : Sto} (f : Ext S S') {n : Nat} (h : S.length ≤ n) (o : MO) : Ext S (S'.set n o) := ⟨fun m u e => by
  have := (List.getElem?_eq_some_iff.mp e).1
  rw [List.getElem?_set_ne (by omega)]; exact f.keep m u e, by rw [List.length_set]; exact f.len⟩
theorem Ext.lt {S S' : Sto} (f : Ext S S') {n : Nat} {o : MO} (h : S[n]? = some o) : n < S'.length := by
  have := (List.getElem?_eq_some_iff.mp h).1
  have := f.len
  omega
/-- comprehensions whose parts only lay new things -/
theorem runLc_ext {C : Sto → Prop} {i : Nat} {t : WT} {e : WE} {f : PV → PV} {g : PV → Bool} {fr : Fr} {Q : List PV → Sto → Prop} : ∀ (xs acc : List PV) (S : Sto), (∀ S1, Ext S S1 → C S1) →
    (∀ x ∈ xs, ∀ S1, Ext S S1 → ∀ Q' : Bool → Sto → Prop, (∀ S2, Ext S1 S2 → Q' (g x) S2) → t (fr.set i (some x)) S1 Q') → (∀ x ∈ xs, g x = true → ∀ S1, Ext S S1 → ∀ Q' : Post, (∀ S2, Ext S1 S2 → Q' (f x) S2) → e (fr.set i (some x)) S1 Q') → acc.length + xs.length < 1000000 → (∀ S', Ext S S' → Q (acc ++ (xs.filter g).map f) S') → runLc C i t e xs fr S acc Q
  | [], acc, S, hC, _, _, _, q => ⟨hC S (.refl S), by simpa using q S (.refl S)⟩
  | x :: xs, acc, S, hC, ht, he, hl, q => by
    rw [List.length_cons] at hl
    refine ⟨hC S (.refl S), ht x List.mem_cons_self S (.refl S) _ fun S1 f1 => ?_⟩
    cases hg : g x with
    | true =>
      refine iteT (he x List.mem_cons_self hg S1 f1 _ fun S2 f2 => ⟨Nat.lt_of_le_of_lt (show acc.length ≤ 1000000 by omega) (by decide), ?_⟩)
      have f12 := f1.trans f2
      refine runLc_ext xs _ S2 (fun S3 f3 => hC S3 (f12.trans f3)) (fun y hy S3 f3 => ht y (List.mem_cons_of_mem _ hy) S3 (f12.trans f3)) (fun y hy hgy S3 f3 => he y (List.mem_cons_of_mem _ hy) hgy S3 (f12.trans f3)) (by rw [List.length_append, List.length_singleton]; omega) fun S3 f3 => ?_
      have := q S3 (f12.trans f3)
      rw [List.filter_cons, hg] at this
      simpa using this
    | false =>
      refine iteF ?_
      refine runLc_ext xs _ S1 (fun S3 f3 => hC S3 (f1.trans f3)) (fun y hy S3 f3 => ht y (List.mem_cons_of_mem _ hy) S3 (f1.trans f3)) (fun y hy hgy S3 f3 => he y (List.mem_cons_of_mem _ hy) hgy S3 (f1.trans f3)) (by omega) fun S3 f3 => ?_
      have := q S3 (f1.trans f3)
      rw [List.filter_cons, hg] at this
      simpa using this
/-- comprehensions with what holds ahead of each turn -/
theorem runLc_by {C : Sto → Prop} {i : Nat} {t : WT} {e : WE} {fr : Fr} {Q : List PV → Sto → Prop} (I : List PV → List PV → Sto → Prop) (hC : ∀ xs acc S, I xs acc S → C S) (fin : ∀ acc S, I [] acc S → Q acc S)
    (step : ∀ x r acc S (K : List PV → Sto → Prop), I (x :: r) acc S → (∀ acc S, I r acc S → K acc S) → t (fr.set i (some x)) S fun b S1 => if b = true then e (fr.set i (some x)) S1 fun y S2 => acc.length < sizeLine ∧ K (acc ++ [y]) S2 else K acc S1) : ∀ (xs acc : List PV) (S : Sto), I xs acc S → runLc C i t e xs fr S acc Q
  | [], acc, S, h => ⟨hC _ _ _ h, fin acc S h⟩
  | x :: r, acc, S, h => ⟨hC _ _ _ h, step x r acc S _ h fun acc S h => runLc_by I hC fin step r acc S h⟩
/-- the law's script -/
theorem law_in {vs : List PV} {S : Sto} {Q : Post} (h : spLaw vs S Q) : ∃ (p0 : PV) (ns : List Int), vs = [p0] ∧ ns.length ≤ 63 ∧ ((∃ n : Nat, p0 = .ref n ∧ S[n]? = some (.ro (ns.map PV.int))) ∨ p0 = .kls (ns.map PV.int)) ∧ ∀ S', Q (.bl true) S' := by
  obtain ⟨ns, hl, hvs, q⟩ := h
  rcases hvs with ⟨rfl, rfl⟩ | ⟨rfl, rfl⟩
  · exact ⟨_, ns, rfl, hl, .inl ⟨0, rfl, rfl⟩, q⟩
  · exact ⟨_, ns, rfl, hl, .inr rfl, q⟩
theorem len_law' : ∀ vs S Q, spLaw vs S Q → vs.length = 1 := by
  intro vs S Q h
  obtain ⟨p0, ns, rfl, _⟩ := law_in h
  rfl
/-- what is sorted is told by its parts -/
theorem lex_unique {xs ys : List (List Int)} (hp : xs.Perm ys) (hx : xs.Pairwise fun a b => HT.lexLt b a = false) (hy : ys.Pairwise fun a b => HT.lexLt b a = false) : xs = ys :=
  hp.eq_of_pairwise (fun a b _ _ h1 h2 => TS.lex_anti a b h2 h1) hx hy
theorem toN' {r : Int} (h0 : 0 ≤ r) : ∃ n : Nat, r = n := ⟨r.toNat, by omega⟩
theorem pd_rows (S : Sto) : ∀ rows : List (List Int), PDts S (rows.map tv) (rows.map fun r => PyData.tuple (dts r))
  | [] => .nil
  | r :: rows => .cons (.tup (pd_iv S r)) (pd_rows S rows)
theorem sm_rows : ∀ rows : List (List Int), (∀ r ∈ rows, r.length ≤ 8 ∧ ∀ x ∈ r, 0 ≤ x ∧ x ≤ 9) → SmDs (502 * rows.length) 4 (rows.map fun r => PyData.tuple (dts r))
  | [], _ => SmDs.nil.mono (Nat.zero_le _) (by decide)
  | r :: rows, h => by
    have h1 := h r List.mem_cons_self
    have a : SmD 500 4 (.tuple (dts r)) := (SmD.tuple (sm_iv r h1.2)).mono (by have := h1.1; omega) (by decide)
    exact (SmDs.cons a (sm_rows rows fun z hz => h z (List.mem_cons_of_mem _ hz))).mono (by rw [List.length_cons]; omega) (Nat.le_refl _)
end M

/-! Families of SETs by codes: the least ones, in order. -/
namespace M
open PySem L2
variable [Tabs]
theorem lex_strict {a b c : List Int} (h1 : HT.lexLt a b = true) (h2 : HT.lexLt b c = true) : HT.lexLt a c = true := by
  cases h : HT.lexLt a c with
  | true => rfl
  | false =>
    have := TS.lex_tr c a b h (TS.lex_asy a b h1)
    rw [h2] at this
    exact nomatch this
abbrev StrL (xs : List (List Int)) : Prop := xs.Pairwise fun a b => HT.lexLt a b = true
theorem StrL.nodup {xs : List (List Int)} (h : StrL xs) : xs.Nodup := by
  refine List.Pairwise.imp (fun {a b} hab e => ?_) h
  subst e
  rw [TS.lex_irr] at hab
  exact nomatch hab
theorem srt_unique {xs ys : List (List Int)} (hx : StrL xs) (hy : StrL ys) (h : ∀ r, r ∈ xs ↔ r ∈ ys) : xs = ys := by
  refine lex_unique ((List.perm_ext_iff_of_nodup hx.nodup hy.nodup).mpr h) ?_ ?_
  · exact List.Pairwise.imp (fun {a b} hab => TS.lex_asy a b hab) hx
  · exact List.Pairwise.imp (fun {a b} hab => TS.lex_asy a b hab) hy
theorem strict_of {xs : List (List Int)} (h : xs.Pairwise fun a b => HT.lexLt b a = false) (nd : xs.Nodup) : StrL xs := by
  refine List.Pairwise.imp (fun {a b} hab => ?_) (List.Pairwise.and h nd)
  cases hc : HT.lexLt a b with
  | true => rfl
  | false => exact absurd (TS.lex_anti a b hc hab.1) hab.2
def insS (r : List Int) : List (List Int) → List (List Int)
  | [] => [r]
  | x :: l => if HT.lexLt r x then r :: x :: l else if HT.lexLt x r then x :: insS r l else x :: l
theorem ins_mem (r : List Int) : ∀ (l : List (List Int)) (z : List Int), z ∈ insS r l ↔ z = r ∨ z ∈ l
  | [], z => by simp [insS]
  | x :: l, z => by
    unfold insS
    split
    · simp
    · split
      · rw [List.mem_cons, ins_mem r l z, List.mem_cons]
        constructor
        · rintro (h | h | h)
          · exact .inr (.inl h)
          · exact .inl h
          · exact .inr (.inr h)
        · rintro (h | h | h)
          · exact .inr (.inl h)
          · exact .inl h
          · exact .inr (.inr h)
      · rename_i h1 h2
        have e : r = x := TS.lex_anti r x (by simpa using h1) (by simpa using h2)
        subst e
        simp
theorem ins_srt (r : List Int) : ∀ (l : List (List Int)), StrL l → StrL (insS r l)
  | [], _ => List.pairwise_singleton _ _
  | x :: l, h => by
    have h' := List.pairwise_cons.mp h
    unfold insS
    split
    · rename_i h1
      refine List.pairwise_cons.mpr ⟨fun z hz => ?_, h⟩
      rcases List.mem_cons.mp hz with rfl | hz
      · exact h1
      · exact lex_strict h1 (h'.1 z hz)
    · split
      · rename_i h1 h2
        refine List.pairwise_cons.mpr ⟨fun z hz => ?_, ins_srt r l h'.2⟩
        rcases (ins_mem r l z).mp hz with rfl | hz
        · exact h2
        · exact h'.1 z hz
      · exact h
def isMin (cs : List Nat) (one : Nat) : Bool := (cs.filter fun o => (decide (o ≠ one)) && decide (o &&& one = o)).isEmpty
theorem isMin_iff {cs : List Nat} {one : Nat} : isMin cs one = true ↔ ∀ o ∈ cs, o &&& one = o → o = one := by
  unfold isMin
  rw [List.isEmpty_iff, List.filter_eq_nil_iff]
  constructor
  · intro h o ho e
    refine Classical.byContradiction fun c => h o ho ?_
    simp [c, e]
  · intro h o ho c
    simp only [Bool.and_eq_true, decide_eq_true_eq] at c
    exact c.1 (h o ho c.2)
def mins (cs : List Nat) : List Nat := cs.filter (isMin cs)
def fam (cs : List Nat) : List (List Int) := ((mins cs).map (bset 8)).foldr insS []
theorem foldr_ins : ∀ l : List (List Int), StrL (l.foldr insS []) ∧ ∀ z, z ∈ l.foldr insS [] ↔ z ∈ l
  | [] => ⟨List.Pairwise.nil, fun _ => Iff.rfl⟩
  | x :: l => by
    obtain ⟨a, b⟩ := foldr_ins l
    refine ⟨ins_srt x _ a, fun z => ?_⟩
    rw [List.foldr_cons, ins_mem, b, List.mem_cons]
theorem fam_srt (cs : List Nat) : StrL (fam cs) := (foldr_ins _).1
theorem fam_mem {cs : List Nat} {r : List Int} : r ∈ fam cs ↔ ∃ c ∈ cs, (∀ o ∈ cs, o &&& c = o → o = c) ∧ r = bset 8 c := by
  unfold fam
  rw [(foldr_ins _).2, List.mem_map]
  constructor
  · rintro ⟨c, hc, rfl⟩
    obtain ⟨h1, h2⟩ := List.mem_filter.mp hc
    exact ⟨c, h1, isMin_iff.mp h2, rfl⟩
  · rintro ⟨c, h1, h2, rfl⟩
    exact ⟨c, List.mem_filter.mpr ⟨h1, isMin_iff.mpr h2⟩, rfl⟩
theorem fam_eq {cs : List Nat} {out : List (List Int)} (h1 : StrL out) (h2 : ∀ r, r ∈ out ↔ ∃ c ∈ cs, (∀ o ∈ cs, o &&& c = o → o = c) ∧ r = bset 8 c) : out = fam cs :=
  srt_unique h1 (fam_srt cs) fun r => by rw [h2, fam_mem]
/-! ### SETs of eight places -/
theorem b8_lt {c : Nat} : ∀ x ∈ bset 8 c, 0 ≤ x ∧ x ≤ 9 := bset_small (by decide)
theorem b8_inj {a b : Nat} (ha : a < 256) (hb : b < 256) (h : bset 8 a = bset 8 b) : a = b := by
  refine eq_of_bits (n := 8) ha hb fun p hp => ?_
  have e : ((p : Int) ∈ bset 8 a) ↔ ((p : Int) ∈ bset 8 b) := by rw [h]
  rw [mem_bset', mem_bset'] at e
  cases h1 : a.testBit p <;> cases h2 : b.testBit p <;> simp [hp, h1, h2] at e <;> rfl
def codeOf (r : List Int) : Nat := (r.map fun p => 2 ^ p.toNat).sum
theorem code_all : (List.range 256).all (fun c => codeOf (bset 8 c) == c) = true := by decide +kernel
theorem code_b8 {c : Nat} (h : c < 256) : codeOf (bset 8 c) = c := by
  have := List.all_eq_true.mp code_all c (List.mem_range.mpr h)
  simpa using this
theorem and_trans {a b c : Nat} (h1 : a &&& b = a) (h2 : b &&& c = b) : a &&& c = a := by rw [← h1, Nat.and_assoc, h2]
theorem sub_len {a b : Nat} (ha : a < 256) (hb : b < 256) (h : a &&& b = a) (hl : (bset 8 b).length ≤ (bset 8 a).length) : a = b := by
  have nd : ∀ c, (bset 8 c).Nodup := fun c => List.Pairwise.imp (fun {x y} hxy e => by omega) (bset_sorted 8 c)
  have sub : ∀ x ∈ bset 8 a, x ∈ bset 8 b := fun x hx => by
    have := within_bset (n := 8) (b := b) ha
    rw [decide_eq_true h] at this
    unfold within at this
    have := List.all_eq_true.mp this x hx
    simpa using this
  have hp : ((bset 8 b).filter fun x => decide (x ∈ bset 8 a)).Perm (bset 8 a) := by
    rw [List.perm_ext_iff_of_nodup ((nd b).filter _) (nd a)]
    intro x
    rw [List.mem_filter, decide_eq_true_eq]
    exact ⟨fun h => h.2, fun h => ⟨sub x h, h⟩⟩
  have e : ((bset 8 b).filter fun x => decide (x ∈ bset 8 a)).length = (bset 8 b).length := by
    have := hp.length_eq
    have := List.length_filter_le (fun x => decide (x ∈ bset 8 a)) (bset 8 b)
    omega
  have all := List.length_filter_eq_length_iff.mp e
  refine b8_inj ha hb (sorted_ext (bset_sorted 8 a) (bset_sorted 8 b) fun x => ⟨sub x, fun hx => ?_⟩)
  simpa using all x hx
/-- what going up by length keeps -/
structure Up (p L : List Nat) : Prop where
  sub : ∀ l ∈ L, l ∈ p
  cov : ∀ d ∈ p, ∃ l ∈ L, l &&& d = l
  min : ∀ l ∈ L, ∀ d ∈ p, d &&& l = d → d = l
  nd : L.Nodup
theorem Up.nil : Up [] [] := ⟨(fun _ h => by cases h), (fun _ h => by cases h), (fun _ h => by cases h), List.Pairwise.nil⟩
theorem Up.step {p L : List Nat} (U : Up p L) {x : Nat} (hx : x < 256) (hp : ∀ d ∈ p, d < 256) (hl : ∀ d ∈ p, (bset 8 d).length ≤ (bset 8 x).length) : Up (p ++ [x]) (if L.any (fun l => decide (l &&& x = l)) then L else L ++ [x]) := by
  have back : ∀ l ∈ p, x &&& l = x → x = l := fun l h e => sub_len hx (hp l h) e (hl l h)
  have inp : ∀ {d}, d ∈ p ++ [x] → d ∈ p ∨ d = x := fun h => by
    rcases List.mem_append.mp h with h | h
    · exact .inl h
    · exact .inr (List.mem_singleton.mp h)
  by_cases c : L.any (fun l => decide (l &&& x = l)) = true
  · rw [if_pos c]
    obtain ⟨l, hl1, hl2⟩ := List.any_eq_true.mp c
    refine ⟨fun l h => List.mem_append_left _ (U.sub l h), fun d h => ?_, fun l h d hd e => ?_, U.nd⟩
    · rcases inp h with h | rfl
      · exact U.cov d h
      · exact ⟨l, hl1, by simpa using hl2⟩
    · rcases inp hd with hd | rfl
      · exact U.min l h d hd e
      · exact back l (U.sub l h) e
  · rw [if_neg c]
    have none : ∀ l ∈ L, ¬ (l &&& x = l) := fun l h e => c (List.any_eq_true.mpr ⟨l, h, by simpa using e⟩)
    refine ⟨fun l h => ?_, fun d h => ?_, fun l h d hd e => ?_, ?_⟩
    · rcases List.mem_append.mp h with h | h
      · exact List.mem_append_left _ (U.sub l h)
      · exact List.mem_append_right _ h
    · rcases inp h with h | rfl
      · obtain ⟨l, a, b⟩ := U.cov d h
        exact ⟨l, List.mem_append_left _ a, b⟩
      · exact ⟨d, List.mem_append_right _ List.mem_cons_self, Nat.and_self d⟩
    · rcases List.mem_append.mp h with hL | hL
      · rcases inp hd with hd' | hd'
        · exact U.min l hL d hd' e
        · rw [hd'] at e ⊢
          exact back l (U.sub l hL) e
      · rw [List.mem_singleton] at hL
        rcases inp hd with hd' | hd'
        · obtain ⟨l', a, b⟩ := U.cov d hd'
          rw [hL] at e
          exact absurd (and_trans b e) (none l' a)
        · rw [hd', hL]
    · unfold List.Nodup
      rw [List.pairwise_append]
      refine ⟨U.nd, List.pairwise_singleton _ _, fun a ha b hb e => ?_⟩
      rw [List.mem_singleton] at hb
      subst hb
      subst e
      exact none a ha (Nat.and_self a)
/-- the least ones, sorted -/
theorem Up.fam {cs ds L : List Nat} (U : Up ds L) (hp : ds.Perm cs) (hc : ∀ c ∈ cs, c < 256) {rows : List (List Int)} (hr : rows.Perm (L.map (bset 8))) (hs : rows.Pairwise fun a b => HT.lexLt b a = false) : rows = fam cs := by
  have nd : rows.Nodup := by
    rw [hr.nodup_iff]
    unfold List.Nodup
    rw [List.pairwise_map]
    refine List.Pairwise.imp_of_mem (fun {a b} ha hb hab e => hab (b8_inj ?_ ?_ e)) U.nd
    · exact hc a (hp.mem_iff.mp (U.sub a ha))
    · exact hc b (hp.mem_iff.mp (U.sub b hb))
  refine fam_eq (strict_of hs nd) fun r => ?_
  rw [hr.mem_iff, List.mem_map]
  constructor
  · rintro ⟨l, hl, rfl⟩
    exact ⟨l, hp.mem_iff.mp (U.sub l hl), fun o ho e => U.min l hl o (hp.mem_iff.mpr ho) e, rfl⟩
  · rintro ⟨c, h1, h2, rfl⟩
    obtain ⟨l, hl, e⟩ := U.cov c (hp.mem_iff.mpr h1)
    have := h2 l (hp.mem_iff.mp (U.sub l hl)) e
    subst this
    exact ⟨l, hl, rfl⟩
theorem fam_len (cs : List Nat) : (fam cs).length ≤ cs.length := by
  have step : ∀ r l, (insS r l).length ≤ l.length + 1 := by
    intro r l
    induction l with
    | nil => exact Nat.le_refl _
    | cons x l ih =>
      unfold insS
      split
      · simp
      · split
        · simp only [List.length_cons]; omega
        · simp
  have all : ∀ l : List (List Int), (l.foldr insS []).length ≤ l.length := by
    intro l
    induction l with
    | nil => exact Nat.le_refl _
    | cons x l ih => rw [List.foldr_cons, List.length_cons]; exact Nat.le_trans (step _ _) (by omega)
  refine Nat.le_trans (all _) ?_
  rw [List.length_map]
  exact List.length_filter_le _ _
end M

/-! The helpers of the laws of families: codes, SETs, least ones, families. -/
namespace M
open PySem L2
variable [Tabs]
abbrev cv (cs : List Nat) : List PV := cs.map fun c : Nat => PV.int (c : Int)
def sv (c : Nat) : PV := tv (bset 8 c)
def fv (n : PV) (cs : List Nat) : PV := .tup [n, .tup ((fam cs).map tv)]
theorem mem_cv {cs : List Nat} {p : PV} (h : p ∈ cv cs) : ∃ c ∈ cs, p = .int (c : Nat) := by
  obtain ⟨c, hc, rfl⟩ := List.mem_map.mp h
  exact ⟨c, hc, rfl⟩
theorem cv_filter {g : PV → Bool} {h : Nat → Bool} : ∀ {cs : List Nat}, (∀ c ∈ cs, g (.int (c : Nat)) = h c) → (cv cs).filter g = cv (cs.filter h)
  | [], _ => rfl
  | c :: cs, e => by
    rw [show cv (c :: cs) = .int (c : Nat) :: cv cs from rfl, List.filter_cons, List.filter_cons, e c List.mem_cons_self, cv_filter fun d hd => e d (List.mem_cons_of_mem _ hd)]
    cases h c <;> rfl
theorem range_cv (n : Nat) : rangeP 0 n = cv (List.range n) := by
  unfold rangeP cv
  refine List.map_congr_left fun i _ => ?_
  show PV.int (0 + (i : Int)) = PV.int (i : Int)
  rw [Int.zero_add]
theorem pd_cv (S : Sto) (cs : List Nat) : PDts S (cv cs) ((cs.map fun c : Nat => (c : Int)).map PyData.int) := by
  have := pdts_ints S (cs.map fun c : Nat => (c : Int))
  rw [List.map_map] at this
  exact this
/-! ### _law_set -/
/-! ### _law_code -/
/-! ### _law_least -/
theorem eqv_nil (ds : List PyData) : PyData.eqv (.list ds) (.list []) = ds.isEmpty := by
  cases ds <;> rfl
/-! ### _law_family -/
/-! ### least_ones -/
theorem nodup_le {α : Type} [DecidableEq α] {xs ys : List α} (h : xs.Nodup) (hs : ∀ x ∈ xs, x ∈ ys) : xs.length ≤ ys.length := by
  induction xs generalizing ys with
  | nil => exact Nat.zero_le _
  | cons x xs ih =>
    have h' := List.nodup_cons.mp h
    have hx := hs x List.mem_cons_self
    have : xs.length ≤ (ys.erase x).length := ih h'.2 fun y hy => (List.mem_erase_of_ne (fun e => h'.1 (by rw [← e]; exact hy))).mpr (hs y (List.mem_cons_of_mem _ hy))
    rw [List.length_erase_of_mem hx] at this
    have := List.length_pos_of_mem hx
    rw [List.length_cons]
    omega
end M

/-! The drawn family. -/
namespace M
open PySem L2
variable [Tabs]
theorem Grow.sl {f m : Nat} {S S' : Sto} {T : Nat} {xs : List PV} (F : Feed S f T) (g : Grow f S S') (h : SL S m xs) : SL S' m xs := SL.grow g F.nosl h
theorem pow_of (n : Nat) (hn : n ≤ 8) : (1 : Int) * 2 ^ ((n : Nat) : Int).toNat = ((2 ^ n : Nat) : Int) ∧ 1 ≤ 2 ^ n ∧ 2 ^ n ≤ 256 := by
  refine ⟨by rw [Int.one_mul, Int.toNat_natCast]; simp, Nat.one_le_two_pow, ?_⟩
  exact Nat.pow_le_pow_right (n := 2) (by decide) hn
end M

/-! all_sets; meeters; the other family. -/
namespace M
open PySem L2
variable [Tabs]
def fb (s : List Int) : Int := match s.getLast? with | some l => l + 1 | none => 0
def nx (n : Nat) (s : List Int) : List (List Int) := (List.range ((n : Int) - fb s).toNat).map fun i : Nat => s ++ [fb s + i]
def lv (n : Nat) : Nat → List (List Int)
  | 0 => [[]]
  | k + 1 => (lv n k).flatMap (nx n)
def ac (n : Nat) : Nat → List (List Int)
  | 0 => [[]]
  | k + 1 => ac n k ++ lv n (k + 1)
def rows (n : Nat) : List (List Int) := (List.range (2 ^ n)).map fun c => bset n c
def okB (n : Nat) : Bool := (List.range (n + 1)).all fun k => (lv n k).isPerm ((rows n).filter fun r => r.length == k) && decide ((lv n k).Pairwise fun a b => HT.lexLt b a = false) && (lv n k).all (fun s => decide (0 ≤ fb s) && decide (fb s ≤ 9) && decide (s.length ≤ 8) && s.all fun x => decide (0 ≤ x) && decide (x ≤ 9)) && decide ((lv n k).length ≤ 256) && decide ((ac n k).length ≤ 256)
end M

/-! Meeters and the other family. -/
namespace M
open PySem L2
variable [Tabs]
def meet (F : List Nat) (c : Nat) : Bool := F.all fun a => !decide (a &&& c = 0)
def fcs (cs : List Nat) : List Nat := (fam cs).map codeOf
theorem fcs_map {cs : List Nat} (hc : ∀ c ∈ cs, c < 256) : fam cs = (fcs cs).map (bset 8) ∧ ∀ c ∈ fcs cs, c ∈ cs := by
  have h : ∀ r ∈ fam cs, ∃ c ∈ cs, r = bset 8 c := fun r hr => by
    obtain ⟨c, h1, _, rfl⟩ := fam_mem.mp hr
    exact ⟨c, h1, rfl⟩
  refine ⟨?_, fun c h' => ?_⟩
  · unfold fcs
    rw [List.map_map]
    conv => lhs; rw [← List.map_id (fam cs)]
    refine List.map_congr_left fun r hr => ?_
    obtain ⟨c, h1, rfl⟩ := h r hr
    show bset 8 c = bset 8 (codeOf (bset 8 c))
    rw [code_b8 (hc c h1)]
  · obtain ⟨r, hr, rfl⟩ := List.mem_map.mp h'
    obtain ⟨c, h1, rfl⟩ := h r hr
    rw [code_b8 (hc c h1)]
    exact h1
/-- the codes of all SETs of n places, as all_sets tells them -/
theorem bset_up {n c : Nat} (hn : n ≤ 8) (hc : c < 2 ^ n) : bset n c = bset 8 c := by
  refine sorted_ext (bset_sorted n c) (bset_sorted 8 c) fun x => ?_
  rw [mem_bset, mem_bset]
  constructor
  · rintro ⟨p, a, b, d⟩
    exact ⟨p, a, by omega, d⟩
  · rintro ⟨p, a, b, d⟩
    refine ⟨p, a, ?_, d⟩
    refine Classical.byContradiction fun h => ?_
    have : c.testBit p = false := Nat.testBit_lt_two_pow (Nat.lt_of_lt_of_le hc (Nat.pow_le_pow_right (by decide) (by omega)))
    rw [d] at this
    exact nomatch this
/-! ### is_meeter, other_family -/
/-- the codes that meet all -/
def mts (n : Nat) (F : List Nat) : List Nat := (List.range (2 ^ n)).filter (meet F)
theorem mts_lt {n : Nat} {F : List Nat} : ∀ c ∈ mts n F, c < 2 ^ n := fun c h => List.mem_range.mp (List.mem_filter.mp h).1
/-! ### meeters one place less -/
theorem meet_mono {F : List Nat} {a b : Nat} (h : a &&& b = a) (hm : meet F a = true) : meet F b = true := by
  unfold meet at *
  rw [List.all_eq_true] at *
  intro x hx
  have := hm x hx
  simp only [Bool.not_eq_true', decide_eq_false_iff_not] at this ⊢
  intro c
  apply this
  rw [← h, Nat.and_comm a b, ← Nat.and_assoc, c, Nat.zero_and]
end M

/-! What holds; the other family of both. -/
namespace M
open PySem L2
variable [Tabs]
def hold (F : List Nat) (c : Nat) : Bool := F.any fun a => decide (a &&& c = a)
theorem hold_iff {F : List Nat} {c : Nat} : hold F c = true ↔ ∃ a ∈ F, a &&& c = a := by
  unfold hold
  rw [List.any_eq_true]
  exact ⟨fun ⟨a, h, e⟩ => ⟨a, h, by simpa using e⟩, fun ⟨a, h, e⟩ => ⟨a, h, by simpa using e⟩⟩
theorem meet_iff {F : List Nat} {c : Nat} : meet F c = true ↔ ∀ a ∈ F, a &&& c ≠ 0 := by
  unfold meet
  rw [List.all_eq_true]
  exact ⟨fun h a ha => by simpa using h a ha, fun h a ha => by simpa using h a ha⟩
def comp (n x : Nat) : Nat := x ^^^ (2 ^ n - 1)
theorem comp_bit (n x i : Nat) : (comp n x).testBit i = (x.testBit i ^^ decide (i < n)) := by
  unfold comp
  rw [Nat.testBit_xor, Nat.testBit_two_pow_sub_one]
theorem bit_out {n x i : Nat} (hx : x < 2 ^ n) (hi : n ≤ i) : x.testBit i = false := Nat.testBit_lt_two_pow (Nat.lt_of_lt_of_le hx (Nat.pow_le_pow_right (by decide) hi))
theorem comp_lt {n x : Nat} (hx : x < 2 ^ n) : comp n x < 2 ^ n := by
  refine Nat.lt_pow_two_of_testBit _ fun i hi => ?_
  rw [comp_bit, bit_out hx hi, decide_eq_false (by omega)]
  rfl
theorem comp_comp {n x : Nat} : comp n (comp n x) = x := by
  apply Nat.eq_of_testBit_eq
  intro i
  rw [comp_bit, comp_bit]
  cases x.testBit i <;> cases decide (i < n) <;> rfl
theorem and_comp {n a x : Nat} (ha : a < 2 ^ n) : a &&& comp n x = 0 ↔ a &&& x = a := by
  constructor
  · intro h
    apply Nat.eq_of_testBit_eq
    intro i
    have hi : (a.testBit i && (comp n x).testBit i) = false := by rw [← Nat.testBit_and, h, Nat.zero_testBit]
    rw [comp_bit] at hi
    rw [Nat.testBit_and]
    by_cases c : i < n
    · rw [decide_eq_true c] at hi
      cases h1 : a.testBit i <;> cases h2 : x.testBit i <;> simp [h1, h2] at hi <;> rfl
    · rw [bit_out ha (by omega)]; rfl
  · intro h
    apply Nat.eq_of_testBit_eq
    intro i
    have hi : (a.testBit i && x.testBit i) = a.testBit i := by rw [← Nat.testBit_and, h]
    rw [Nat.testBit_and, comp_bit, Nat.zero_testBit]
    by_cases c : i < n
    · rw [decide_eq_true c]
      cases h1 : a.testBit i <;> cases h2 : x.testBit i <;> simp [h1, h2] at hi <;> rfl
    · rw [bit_out ha (by omega)]; rfl
theorem meet_comp {n x : Nat} {F : List Nat} (hF : ∀ a ∈ F, a < 2 ^ n) : meet F (comp n x) = !hold F x := by
  rw [Bool.eq_iff_iff, meet_iff, Bool.not_eq_true', ← Bool.not_eq_true, hold_iff]
  constructor
  · rintro h ⟨a, ha, e⟩
    exact h a ha ((and_comp (hF a ha)).mpr e)
  · intro h a ha e
    exact h ⟨a, ha, (and_comp (hF a ha)).mp e⟩
/-! ### does_hold -/
end M

/-! A least meeter within a SET. -/
namespace M
open PySem L2
variable [Tabs]
end M

/-! Whole numbers, SETs and FAMILIES among any things. -/
namespace M
open PySem L2
variable [Tabs]
def isInt : PV → Bool
  | .int _ => true | .bl _ => true | _ => false
def whole : PV → Bool
  | .int _ => true | _ => false
def below (p : PV) (m : Int) : Bool := match p with
  | .int i => decide (0 ≤ i) && decide (i < m)
  | _ => false
/-! ### is_tuple_of, can_follow, is_family -/
end M

/-! Families as data: their texts, their likeness; what is told of a family and of its other one. -/
namespace M
open PySem L2
variable [Tabs]
def bd (bs : List Bool) : List PyData := bs.map PyData.bool
def fd (n : Nat) (cs : List Nat) : PyData := .tuple [.int (n : Nat), .tuple ((fam cs).map fun r => PyData.tuple (dts r))]
theorem sm_fam (n : Nat) (cs : List Nat) (hn : n ≤ 9) (hl : cs.length ≤ 310) : SmD 200000 7 (fd n cs) := by
  have h1 := sm_rows (fam cs) fun r hr => by
    obtain ⟨c, _, _, rfl⟩ := fam_mem.mp hr
    exact ⟨bset_length 8 c, b8_lt⟩
  have h2 := fam_len cs
  refine (SmD.tuple (SmDs.cons ((sm_int (i := (n : Int)) (by omega) (by omega)).mono (Nat.le_refl _) (by decide)) (SmDs.cons (SmD.tuple h1) (SmDs.nil.mono (Nat.zero_le 0) (by decide))))).mono ?_ (by decide)
  omega
theorem pd_fam (S : Sto) (n : Nat) (cs : List Nat) : PDt S (fv (.int (n : Nat)) cs) (fd n cs) := .tup (.cons (.int _) (.cons (.tup (pd_rows S _)) .nil))
/-! ### what a family holds tells it -/
def ups (n : Nat) (F : List Nat) : List Nat := (List.range (2 ^ n)).filter (hold F)
theorem fam_ups {n : Nat} {cs : List Nat} (hn : n ≤ 8) (hc : ∀ c ∈ cs, c < 2 ^ n) : fam (ups n (fcs cs)) = fam cs := by
  have hp2 : 2 ^ n ≤ 256 := Nat.pow_le_pow_right (n := 2) (by decide) hn
  have hc2 : ∀ c ∈ cs, c < 256 := fun c h => Nat.lt_of_lt_of_le (hc c h) hp2
  have mf : ∀ {c}, c ∈ cs → (∀ o ∈ cs, o &&& c = o → o = c) → c ∈ fcs cs := fun {c} h1 h2 => List.mem_map.mpr ⟨bset 8 c, fam_mem.mpr ⟨c, h1, h2, rfl⟩, code_b8 (hc2 c h1)⟩
  have fm : ∀ {c}, c ∈ fcs cs → c ∈ cs ∧ ∀ o ∈ cs, o &&& c = o → o = c := fun {c} h => by
    obtain ⟨r, h1, rfl⟩ := List.mem_map.mp h
    obtain ⟨d, h2, h3, rfl⟩ := fam_mem.mp h1
    rw [code_b8 (hc2 d h2)]
    exact ⟨h2, h3⟩
  have up : ∀ {c}, c ∈ fcs cs → c ∈ ups n (fcs cs) := fun {c} h => List.mem_filter.mpr ⟨List.mem_range.mpr (hc c (fm h).1), hold_iff.mpr ⟨c, h, Nat.and_self c⟩⟩
  refine (fam_eq (fam_srt cs) fun r => ⟨fun h => ?_, ?_⟩).symm
  · obtain ⟨c, h1, h2, rfl⟩ := fam_mem.mp h
    refine ⟨c, up (mf h1 h2), fun o ho e => ?_, rfl⟩
    obtain ⟨a, ha, hs⟩ := hold_iff.mp (List.mem_filter.mp ho).2
    have := h2 a (fm ha).1 (and_trans hs e)
    subst this
    rw [Nat.and_comm] at hs
    rw [← e, hs]
  · rintro ⟨c, h1, h2, rfl⟩
    obtain ⟨a, ha, hs⟩ := hold_iff.mp (List.mem_filter.mp h1).2
    have := h2 a (up ha) hs
    subst this
    exact fam_mem.mpr ⟨a, (fm ha).1, (fm ha).2, rfl⟩
def hb (n : Nat) (F : List Nat) : List Bool := (List.range (2 ^ n)).map (hold F)
theorem told_eq {n : Nat} {cs ds : List Nat} (hn : n ≤ 8) (hc : ∀ c ∈ cs, c < 2 ^ n) (hd : ∀ c ∈ ds, c < 2 ^ n) : (hb n (fcs cs) = hb n (fcs ds)) ↔ fam cs = fam ds := by
  constructor
  · intro h
    rw [← fam_ups hn hc, ← fam_ups hn hd]
    congr 1
    unfold ups
    refine List.filter_congr fun c hc => ?_
    exact (List.map_inj_left.mp h) c hc
  · intro h
    unfold fcs
    rw [h]
/-! ### codes of a family -/
/-! ### families told anew -/
theorem at_cv {L : List Nat} {i : Int} (h0 : 0 ≤ i) (h1 : i < L.length) : ∃ n ∈ L, atI (cv L) i = some (.int (n : Nat)) := by
  obtain ⟨k, rfl⟩ : ∃ k : Nat, i = (k : Int) := ⟨i.toNat, by omega⟩
  have hk : k < L.length := by omega
  refine ⟨L[k], List.getElem_mem hk, atI_mod h0 ?_⟩
  show ((L.map fun c : Nat => PV.int (c : Int)))[k]? = _
  rw [List.getElem?_map, List.getElem?_eq_getElem hk]
  rfl
theorem p256 {n : Nat} (hn : n ≤ 8) : 2 ^ n ≤ 256 := Nat.pow_le_pow_right (n := 2) (by decide) hn
theorem lt256 {n : Nat} {cs : List Nat} (hn : n ≤ 8) (hc : ∀ c ∈ cs, c < 2 ^ n) : ∀ c ∈ cs, c < 256 := fun c h => Nat.lt_of_lt_of_le (hc c h) (p256 hn)
theorem mem_fcs {cs : List Nat} (hc : ∀ c ∈ cs, c < 256) {c : Nat} : c ∈ fcs cs ↔ c ∈ cs ∧ ∀ o ∈ cs, o &&& c = o → o = c := by
  constructor
  · intro h
    obtain ⟨r, h1, rfl⟩ := List.mem_map.mp h
    obtain ⟨d, h2, h3, rfl⟩ := fam_mem.mp h1
    rw [code_b8 (hc d h2)]
    exact ⟨h2, h3⟩
  · rintro ⟨h1, h2⟩
    exact List.mem_map.mpr ⟨bset 8 c, fam_mem.mpr ⟨c, h1, h2, rfl⟩, code_b8 (hc c h1)⟩
theorem fcs_lt {n : Nat} {cs : List Nat} (hn : n ≤ 8) (hc : ∀ c ∈ cs, c < 2 ^ n) : ∀ c ∈ fcs cs, c < 2 ^ n := fun c h => hc c ((mem_fcs (lt256 hn hc)).mp h).1
theorem fv_congr {n : PV} {cs ds : List Nat} (h : fam cs = fam ds) : fv n cs = fv n ds := by unfold fv; rw [h]
/-! ### a family is one -/
/-- two statements one behind the other, by what holds between them -/
theorem join {f g : WS} {D : PD} {fr : Fr} {S : Sto} (I : Fr → Sto → Prop) (hf : ∀ N : Fr → Sto → Prop, (∀ fr S, I fr S → N fr S) → f { D with nx := N } fr S) (hg : ∀ fr S, I fr S → g D fr S) : wSeq f g D fr S := hf (g D) hg
theorem sz {k : Nat} (h : k ≤ 1000) : k ≤ sizeLine := Nat.le_trans h (by decide)
end M

/-! Statements, read one by one: what is left keeps its shape. -/
namespace M
open PySem L2
variable [Tabs]
section
variable {f : WE} {c : WT} {a b g : WS} {D : PD} {fr : Fr} {S : Sto} {i : Nat}
theorem sa (h : f fr S fun x S1 => g D (fr.set i (some x)) S1) : wSeq (wAsg f (pName i)) g D fr S := h
theorem sd (h : f fr S fun _ S1 => g D fr S1) : wSeq (wDrop f) g D fr S := h
/-- if ..: return .. -/
theorem sret (h : c fr S fun k S1 => if k = true then f fr S1 D.rt else g D fr S1) : wSeq (wIfS c (wRet f) wNext) g D fr S := h
theorem sret1 (h : c fr S fun k S1 => if k = true then f fr S1 D.rt else D.nx fr S1) : wIfS c (wRet f) wNext D fr S := h
theorem sfor {wi : WI} {tg : WG} (h : wi fr S fun it S1 => match it with | .its xs => runIts tg b xs { D with nx := g D } fr S1 | .lst n => ∃ xs, SL S1 n xs ∧ runLst tg b n xs xs { D with nx := g D } fr S1) : wSeq (wFor wi tg b) g D fr S := h
theorem its_by (I : List PV → Fr → Sto → Prop) (fin : ∀ fr S, I [] fr S → D.nx fr S)
    (step : ∀ (x : PV) (r : List PV) (fr : Fr) (S : Sto) (K : Fr → Sto → Prop), (∀ fr S, I r fr S → K fr S) → I (x :: r) fr S → b ⟨K, D.rt, D.nx, K⟩ (fr.set i (some x)) S) {xs : List PV} {fr : Fr} {S : Sto} (h : I xs fr S) : runIts (pName i) b xs D fr S := runIts_by I fin step xs fr S h
end
theorem fam_sv {cs : List Nat} (hc : ∀ c ∈ cs, c < 256) : (fam cs).map tv = (fcs cs).map sv := by
  conv => lhs; rw [(fcs_map hc).1]
  rw [List.map_map]
  rfl
end M

/-! The tape from which the laws of the second stage draw; families by their codes. -/
namespace M
open PySem L2
variable [Tabs]
section
variable {f fo fi fv : WE} {c : WT} {a b g : WS} {D : PD} {fr : Fr} {S : Sto}
theorem sifn (h : c fr S fun k S1 => if k = true then a { D with nx := g D } fr S1 else g D fr S1) : wSeq (wIfS c a wNext) g D fr S := h
theorem sip (h : fv fr S fun v S1 => fo fr S1 fun x S2 => fi fr S2 fun y S3 => ∃ n xs k j, x = .ref n ∧ y = .int k ∧ S3[n]? = some (.lst xs) ∧ ixN xs.length k = some j ∧ g D fr (S3.set n (.lst (xs.set j v)))) : wSeq (wIPut fo fi fv) g D fr S := h
end
theorem sfor1 {wi : WI} {tg : WG} {b : WS} {D : PD} {fr : Fr} {S : Sto} (h : wi fr S fun it S1 => match it with | .its xs => runIts tg b xs D fr S1 | .lst n => ∃ xs, SL S1 n xs ∧ runLst tg b n xs xs D fr S1) : wFor wi tg b D fr S := h
structure Tape (S : Sto) (m T : Nat) : Prop where
  ex : ∃ (c : Nat) (a l : Int) (ns : List Int), S[m]? = some (.lst [.ref c, .int a, .int l]) ∧ S[c]? = some (.lst (ns.map PV.int)) ∧ ns.length ≤ 63 ∧ 0 ≤ a ∧ a ≤ T ∧ 0 ≤ l ∧ c < m
theorem Tape.lt {S : Sto} {m T : Nat} (f : Tape S m T) : m < S.length := by
  obtain ⟨c, a, l, ns, h1, _⟩ := f.ex
  exact (List.getElem?_eq_some_iff.mp h1).1
theorem Tape.mono {S : Sto} {m T T' : Nat} (f : Tape S m T) (h : T ≤ T') : Tape S m T' := by
  obtain ⟨c, a, l, ns, h1, h2, h3, h4, h5, h6⟩ := f.ex
  exact ⟨c, a, l, ns, h1, h2, h3, h4, by omega, h6⟩
theorem Tape.ext {S S' : Sto} {m T : Nat} (f : Tape S m T) (x : Ext S S') : Tape S' m T := by
  obtain ⟨c, a, l, ns, h1, h2, r⟩ := f.ex
  exact ⟨c, a, l, ns, x.keep _ _ h1, x.keep _ _ h2, r⟩
theorem Tape.app {S : Sto} {m T : Nat} (f : Tape S m T) (X : Sto) : Tape (S ++ X) m T := f.ext (Ext.app S X)
def w14_tape : WS := (wRet (wLst (wCons (wCall pList (wCons (wSl (wVar 0) wNoPart (wPart (wC (.int 63)))) wNil)) (wCons (wC (.int 0)) (wCons (wC (.int 0)) wNil)))))
def N14_tape : List Str := ["a"]
def sp14_tape : PSp := fun vs S Q => ∃ (p : PV) (ns : List Int), vs = [p] ∧ ns.length ≤ 63 ∧ ((∃ n, p = .ref n ∧ S[n]? = some (.ro (ns.map PV.int))) ∨ p = .kls (ns.map PV.int)) ∧ ∀ (m : Nat) (S' : Sto), Tape S' m 0 → Q (.ref m) S'
theorem len14_tape : ∀ vs S Q, sp14_tape vs S Q → vs.length = 1 := by rintro _ S Q ⟨p, ns, rfl, _⟩; rfl
theorem rd14_tape : ∀ vs S Q, sp14_tape vs S Q → w14_tape { nx := fun _ S' => Q .non S', rt := Q } (startP N14_tape vs) S := by
  rintro _ S Q ⟨p, ns, rfl, hl, hp, k⟩
  have e63 := cut63 ns hl
  have fin : ∀ S1 : Sto, Tape (S1 ++ [MO.lst (ns.map PV.int)] ++ [MO.lst [.ref S1.length, .int 0, .int 0]]) (S1 ++ [MO.lst (ns.map PV.int)]).length 0 := fun S1 =>
    ⟨S1.length, 0, 0, ns, get_end _ _, (Ext.app _ _).keep _ _ (get_end _ _), hl, by decide, by decide, by decide, by simp⟩
  rcases hp with ⟨n, rfl, h⟩ | rfl
  · refine ⟨_, rfl, _, rfl, ns.map PV.int, .inr h, ?_⟩
    rw [e63]
    exact ⟨_, sl_end _ _, sz (by decide : 3 ≤ 1000), k _ _ (fin _)⟩
  · refine ⟨_, rfl, _, rfl, ?_⟩
    simp only [bSl, e63]
    exact ⟨_, sl_end _ _, sz (by decide : 3 ≤ 1000), k _ _ (fin _)⟩
/-! ### a draw -/
def w14_draw : WS :=
    (wSeq (wIfS (wB (wOp bGt (wOp bIdx (wVar 0) (wC (.int 2))) (wC (.int 0)))) (wSeq (wAsg (wOp bMod (wOp bIdx (wVar 0) (wC (.int 2))) (wVar 1)) (pName 5))
    (wSeq (wIPut (wVar 0) (wC (.int 2)) (wOp bFdiv (wOp bIdx (wVar 0) (wC (.int 2))) (wVar 1)))
    (wRet (wVar 5)))) wNext)
    (wSeq (wAsg (wOp bIdx (wVar 0) (wC (.int 1))) (pName 2))
    (wSeq (wIPut (wVar 0) (wC (.int 1)) (wOp bAdd (wVar 2) (wC (.int 1))))
    (wSeq (wAsg (wIf (wB (wOp (bEq true) (wOp bIdx (wVar 0) (wC (.int 0))) (wLst wNil))) (wOp bIdx (wOp bIdx (wVar 0) (wC (.int 0))) (wOp bMod (wVar 2) (wCall pLen (wCons (wOp bIdx (wVar 0) (wC (.int 0))) wNil)))) (wC (.int 3))) (pName 3))
    (wSeq (wIfS (wAndT (wB (wOp bGe (wVar 3) (wOp bPow (wC (.int 10)) (wC (.int 18))))) (wB (wOp bLt (wVar 2) (wCall pLen (wCons (wOp bIdx (wVar 0) (wC (.int 0))) wNil))))) (wSeq (wIPut (wVar 0) (wC (.int 2)) (wOp bFdiv (wVar 3) (wVar 1)))
    (wRet (wOp bMod (wVar 3) (wVar 1)))) wNext)
    (wSeq (wAsg (wOp bMod (wOp bPow (wOp bAdd (wOp bAdd (wOp bMul (wOp bMod (wVar 3) (wC (.int 2147483629))) (wOp bAdd (wOp bMul (wC (.int 2)) (wVar 2)) (wC (.int 1)))) (wOp bMul (wC (.int 7919)) (wVar 2))) (wC (.int 11))) (wC (.int 5))) (wC (.int 2147483647))) (pName 4))
    (wRet (wOp bMod (wOp bFdiv (wOp bMod (wOp bPow (wOp bAdd (wOp bMul (wVar 4) (wOp bAdd (wOp bMod (wVar 2) (wC (.int 97))) (wC (.int 5)))) (wVar 2)) (wC (.int 5))) (wC (.int 2147483587))) (wC (.int 64))) (wVar 1)))))))))
def N14_draw : List Str := ["a", "b", "c", "d", "e", "f"]
def sp14_draw : PSp := fun vs S Q => ∃ (m T : Nat) (x : Int), vs = [.ref m, .int x] ∧ 0 < x ∧ x < 1000000 ∧ T < 1000000 ∧ Tape S m T ∧ ∀ (r : Nat) (S' : Sto), (r : Int) < x → Grow m S S' → Tape S' m (T + 1) → Q (.int (r : Nat)) S'
theorem len14_draw : ∀ vs S Q, sp14_draw vs S Q → vs.length = 2 := by rintro _ S Q ⟨m, T, x, rfl, _⟩; rfl
theorem rd14_draw : ∀ vs S Q, sp14_draw vs S Q → w14_draw { nx := fun _ S' => Q .non S', rt := Q } (startP N14_draw vs) S := by
  rintro _ S Q ⟨m, T, x, rfl, hx, hx2, hT, F, k0⟩
  obtain ⟨c, a, l, ns, h1, h2, h3, ha, haT, hl, hcm⟩ := F.ex
  have k : ∀ (r : Int) (S' : Sto), 0 ≤ r → r < x → Grow m S S' → Tape S' m (T + 1) → Q (.int r) S' := fun r S' r0 r1 G F => by
    obtain ⟨z, rfl⟩ := toN' r0
    exact k0 z S' r1 G F
  have hm := F.lt
  refine sifn ⟨_, rfl, _, _, .inl h1, rfl, _, rfl, ?_⟩
  by_cases hl0 : 0 < l
  · rw [decide_eq_true hl0]
    refine iteT (sa ⟨_, rfl, _, _, .inl h1, rfl, _, rfl, hx, ?_⟩)
    refine ⟨_, rfl, _, _, .inl h1, rfl, _, rfl, ⟨hx, by omega⟩, _, rfl, m, _, 2, 2, rfl, rfl, h1, rfl, ?_⟩
    refine ⟨_, rfl, k _ _ (Int.emod_nonneg _ (by omega)) (Int.emod_lt_of_pos _ hx) ((Grow.refl m S).set _) ?_⟩
    exact ⟨c, a, l / x, ns, by rw [List.getElem?_set_self hm]; rfl, by rw [List.getElem?_set_ne (by omega)]; exact h2, h3, ha, by omega, Int.ediv_nonneg hl (by omega), hcm⟩
  · rw [decide_eq_false hl0]
    refine iteF (sa ⟨_, rfl, _, _, .inl h1, rfl, ?_⟩)
    refine sip ⟨_, rfl, _, rfl, m, _, 1, 1, rfl, rfl, h1, rfl, ?_⟩
    generalize hS2 : S.set m (.lst ([PV.ref c, .int a, .int l].set 1 (.int (a + 1)))) = S2
    have e1 : S2[m]? = some (.lst [.ref c, .int (a + 1), .int l]) := by rw [← hS2, List.getElem?_set_self hm]; rfl
    have e2 : S2[c]? = some (.lst (ns.map PV.int)) := by rw [← hS2, List.getElem?_set_ne (by omega)]; exact h2
    have G2 : Grow m S S2 := by rw [← hS2]; exact (Grow.refl m S).set _
    have hm2 : m < S2.length := (List.getElem?_eq_some_iff.mp e1).1
    refine join (fun fr S3 => ∃ (o4 o5 : Option PV) (cell : Int), fr = [some (.ref m), some (.int x), some (.int a), some (.int cell), o4, o5] ∧ S3 = S2 ++ [MO.lst []]) (fun N hN => ?_) ?_
    · refine ⟨_, rfl, _, _, .inl e1, rfl, sz (by decide : 0 ≤ 1000), ?_⟩
      have f2 := (Ext.app S2 [MO.lst []]).keep _ _ e2
      have f1 := (Ext.app S2 [MO.lst []]).keep _ _ e1
      refine ⟨.list (ns.map PyData.int), .list [], .lst (.inl f2) (pdts_ints _ ns), .lst (sl_end _ _) .nil, shaped_ints ns, by decide, _, rfl, ?_⟩
      cases ns with
      | nil =>
        refine iteF ?_
        exact hN _ _ ⟨_, _, 3, rfl, rfl⟩
      | cons z zs =>
        have hlen : 0 < ((z :: zs).map PV.int).length := by simp
        refine iteT ⟨_, rfl, _, _, .inl f1, rfl, _, rfl, _, rfl, _, _, .inl f1, rfl, .inl ⟨_, .inl f2, by omega, ?_⟩⟩
        have i0 : 0 ≤ a % (((z :: zs).map PV.int).length : Int) := Int.emod_nonneg _ (by omega)
        have i1 : a % (((z :: zs).map PV.int).length : Int) < (((z :: zs).map PV.int).length : Int) := Int.emod_lt_of_pos _ (by omega)
        have i3 : (a % (((z :: zs).map PV.int).length : Int)).toNat < (z :: zs).length := by simp only [List.length_map] at i0 i1 ⊢; omega
        refine ⟨_, .int (z :: zs)[(a % (((z :: zs).map PV.int).length : Int)).toNat], .inl f2, atI_mod i0 ?_, hN _ _ ⟨_, _, _, rfl, rfl⟩⟩
        rw [List.getElem?_map, List.getElem?_eq_getElem i3]
        rfl
    · rintro _ _ ⟨o4, o5, cell, rfl, rfl⟩
      generalize hS3 : S2 ++ [MO.lst []] = S3
      have f1 : S3[m]? = some (.lst [.ref c, .int (a + 1), .int l]) := by rw [← hS3]; exact (Ext.app S2 _).keep _ _ e1
      have f2 : S3[c]? = some (.lst (ns.map PV.int)) := by rw [← hS3]; exact (Ext.app S2 _).keep _ _ e2
      have G3 : Grow m S S3 := by rw [← hS3]; exact G2.app _
      have F3 : Tape S3 m (T + 1) := ⟨c, a + 1, l, ns, f1, f2, h3, by omega, by omega, hl, hcm⟩
      have hm3 : m < S3.length := (List.getElem?_eq_some_iff.mp f1).1
      refine join (fun fr S4 => fr = [some (.ref m), some (.int x), some (.int a), some (.int cell), o4, o5] ∧ S4 = S3) (fun N hN => ?_) ?_
      · refine ⟨_, rfl, ⟨by decide, by decide, by decide⟩, _, rfl, ?_⟩
        by_cases hc : 10 ^ (18 : Int).toNat ≤ cell
        · rw [decide_eq_true hc]
          refine iteT ⟨_, rfl, _, rfl, _, _, .inl f1, rfl, .inl ⟨_, .inl f2, _, rfl, ?_⟩⟩
          by_cases ha2 : a < ((ns.map PV.int).length : Int)
          · rw [decide_eq_true ha2]
            refine iteT ⟨_, rfl, _, rfl, ⟨hx, by omega⟩, _, rfl, m, _, 2, 2, rfl, rfl, f1, rfl, ?_⟩
            have hc0 : 0 ≤ cell := Int.le_trans (by decide) hc
            refine ⟨_, rfl, _, rfl, hx, k _ _ (Int.emod_nonneg _ (by omega)) (Int.emod_lt_of_pos _ hx) (G3.set _) ?_⟩
            exact ⟨c, a + 1, cell / x, ns, by rw [List.getElem?_set_self hm3]; rfl, by rw [List.getElem?_set_ne (by omega)]; exact f2, h3, by omega, by omega, Int.ediv_nonneg hc0 (by omega), hcm⟩
          · rw [decide_eq_false ha2]
            exact iteF (hN _ _ ⟨rfl, rfl⟩)
        · rw [decide_eq_false hc]
          exact iteF (hN _ _ ⟨rfl, rfl⟩)
      · rintro _ _ ⟨rfl, rfl⟩
        have c1 : 0 ≤ cell % 2147483629 := Int.emod_nonneg _ (by decide)
        have c2 : cell % 2147483629 < 2147483629 := Int.emod_lt_of_pos _ (by decide)
        have b1 : 0 ≤ cell % 2147483629 * (2 * a + 1) := Int.mul_nonneg c1 (by omega)
        have b2 : cell % 2147483629 * (2 * a + 1) ≤ 2147483629 * 2000001 := Int.mul_le_mul (by omega) (by omega) (by omega) (by decide)
        refine sa ⟨_, rfl, by decide, _, rfl, .inl ⟨by omega, by omega⟩, .inl ⟨by omega, by omega⟩, _, rfl, .inl ⟨by omega, by omega⟩, ⟨by decide, by decide, by omega⟩, by decide, ?_⟩
        generalize hy : (cell % 2147483629 * (2 * a + 1) + 7919 * a + 11) ^ (5 : Int).toNat % 2147483647 = y
        have y1 : 0 ≤ y := by rw [← hy]; exact Int.emod_nonneg _ (by decide)
        have y2 : y < 2147483647 := by rw [← hy]; exact Int.emod_lt_of_pos _ (by decide)
        have d1 : 0 ≤ a % 97 := Int.emod_nonneg _ (by decide)
        have d2 : a % 97 < 97 := Int.emod_lt_of_pos _ (by decide)
        have d3 : 0 ≤ y * (a % 97 + 5) := Int.mul_nonneg y1 (by omega)
        have d4 : y * (a % 97 + 5) ≤ 2147483647 * 102 := Int.mul_le_mul (by omega) (by omega) (by omega) (by decide)
        refine ⟨_, rfl, _, rfl, by decide, .inl ⟨by omega, by omega⟩, _, rfl, ⟨by decide, by decide, by omega⟩, by decide, ⟨by decide, by decide⟩, _, rfl, hx, ?_⟩
        exact k _ _ (Int.emod_nonneg _ (by omega)) (Int.emod_lt_of_pos _ hx) G3 F3
end M

/-! How the second stage's laws make families. -/
namespace M
open PySem L2
variable [Tabs]
/-- codes of which none is within another one -/
structure Anti (cs : List Nat) : Prop where
  nd : cs.Nodup
  an : ∀ a ∈ cs, ∀ b ∈ cs, a &&& b = a → a = b
theorem Anti.sub {cs ds : List Nat} (A : Anti cs) (h : ds.Sublist cs) : Anti ds := ⟨A.nd.sublist h, fun a ha b hb => A.an a (h.subset ha) b (h.subset hb)⟩
theorem Anti.filter {cs : List Nat} (A : Anti cs) (p : Nat → Bool) : Anti (cs.filter p) := A.sub List.filter_sublist
theorem anti_nil : Anti [] := ⟨.nil, fun _ h => nomatch h⟩
theorem anti_one (c : Nat) : Anti [c] := ⟨by simp, fun a ha b hb _ => by rw [List.mem_singleton.mp ha, List.mem_singleton.mp hb]⟩
theorem anti_fam {cs : List Nat} (A : Anti cs) {r : List Int} : r ∈ fam cs ↔ ∃ c ∈ cs, r = bset 8 c := by
  rw [fam_mem]
  exact ⟨fun ⟨c, h, _, e⟩ => ⟨c, h, e⟩, fun ⟨c, h, e⟩ => ⟨c, h, fun o ho eo => A.an o ho c h eo, e⟩⟩
theorem anti_rows {cs : List Nat} (A : Anti cs) (hc : ∀ c ∈ cs, c < 256) {rows : List (List Int)} (hp : rows.Perm (cs.map (bset 8))) (hs : rows.Pairwise fun a b => HT.lexLt b a = false) : rows = fam cs := by
  refine srt_unique (strict_of hs (hp.nodup_iff.mpr ?_)) (fam_srt cs) fun r => ?_
  · refine List.Pairwise.map _ ?_ (List.Pairwise.and_mem.mp A.nd)
    rintro a b ⟨ha, hb, h⟩ e
    exact h (b8_inj (hc a ha) (hc b hb) e)
  · rw [hp.mem_iff, anti_fam A, List.mem_map]
    exact ⟨fun ⟨c, h, e⟩ => ⟨c, h, e.symm⟩, fun ⟨c, h, e⟩ => ⟨c, h, e.symm⟩⟩
/-! ### _law_set, _law_size -/
def w15_set : WS := (wRet (wCall pTuple (wCons (wLc 2 (wRange1 (wCons (wVar 0) wNil)) (wB (wOp (bEq false) (wOp bAnd (wOp bShr (wVar 1) (wVar 2)) (wC (.int 1))) (wC (.int 1)))) (wVar 2)) wNil)))
def N15_set : List Str := ["a", "b", "c"]
def sp15_set : PSp := fun vs S Q => ∃ n c : Nat, vs = [.int (n : Nat), .int (c : Nat)] ∧ n ≤ 8 ∧ c < 2 ^ n ∧ ∀ S', Ext S S' → Q (sv c) S'
theorem len15_set : ∀ vs S Q, sp15_set vs S Q → vs.length = 2 := by rintro _ S Q ⟨n, c, rfl, _⟩; rfl
theorem rd15_set : ∀ vs S Q, sp15_set vs S Q → w15_set { nx := fun _ S' => Q .non S', rt := Q } (startP N15_set vs) S := by
  rintro _ S Q ⟨n, c, rfl, hn, hc, q⟩
  refine ⟨_, rfl, _, rfl, ⟨by omega, by omega⟩, ?_⟩
  show runLc _ 2 _ _ (rangeP 0 _) _ _ _ _
  rw [Int.toNat_natCast, range_cv]
  refine runLc_pure (f := fun x => x) (g := fun p => match p with | .int i => decide (Builtin.bitAnd ((c : Int) / 2 ^ i.toNat) 1 = 1) ^^ false | _ => false) trivial _ [] (fun x hx Q' q' => ?_) (fun x hx _ Q' q' => ⟨_, rfl, q'⟩) (by rw [List.length_map, List.length_range]; show 0 + _ < _; omega) ?_
  · obtain ⟨p, _, rfl⟩ := mem_cv hx
    exact ⟨_, rfl, _, rfl, by omega, _, rfl, q'⟩
  · rw [List.nil_append, List.map_id', cv_filter (h := fun p => c.testBit p) fun p _ => by rw [← bit_test]; simp]
    refine ⟨_, sl_end _ _, ?_⟩
    have e : cv ((List.range n).filter fun p => c.testBit p) = (bset 8 c).map PV.int := by
      rw [← bset_up hn hc]
      unfold bset cv
      rw [List.map_map]; rfl
    rw [e]
    exact q _ (Ext.app S _)
def w15_size : WS := (wRet (wCall pLen (wCons (wLc 1 (wRange1 (wCons (wC (.int 8)) wNil)) (wB (wOp (bEq false) (wOp bAnd (wOp bShr (wVar 0) (wVar 1)) (wC (.int 1))) (wC (.int 1)))) (wVar 1)) wNil)))
def N15_size : List Str := ["a", "b"]
def sp15_size : PSp := fun vs S Q => ∃ c : Nat, vs = [.int (c : Nat)] ∧ ∀ S', Ext S S' → Q (.int ((bset 8 c).length : Nat)) S'
theorem len15_size : ∀ vs S Q, sp15_size vs S Q → vs.length = 1 := by rintro _ S Q ⟨c, rfl, _⟩; rfl
theorem rd15_size : ∀ vs S Q, sp15_size vs S Q → w15_size { nx := fun _ S' => Q .non S', rt := Q } (startP N15_size vs) S := by
  rintro _ S Q ⟨c, rfl, q⟩
  refine ⟨8, rfl, ⟨by decide, by decide⟩, ?_⟩
  show runLc _ 1 _ _ (rangeP 0 8) _ _ _ _
  rw [range_cv]
  refine runLc_pure (f := fun x => x) (g := fun p => match p with | .int i => decide (Builtin.bitAnd ((c : Int) / 2 ^ i.toNat) 1 = 1) ^^ false | _ => false) trivial _ [] (fun x hx Q' q' => ?_) (fun x hx _ Q' q' => ⟨_, rfl, q'⟩) (by simp) ?_
  · obtain ⟨p, _, rfl⟩ := mem_cv hx
    exact ⟨_, rfl, _, rfl, by omega, _, rfl, q'⟩
  · rw [List.nil_append, List.map_id', cv_filter (h := fun p => c.testBit p) fun p _ => by rw [← bit_test]; simp]
    refine .inl ⟨_, sl_end _ _, ?_⟩
    have e : (cv ((List.range 8).filter fun p => c.testBit p)).length = (bset 8 c).length := by unfold bset cv; rw [List.length_map, List.length_map]
    rw [e]
    exact q _ (Ext.app S _)
/-! ### _law_least -/
def w15_least : WS :=
    (wSeq (wAsg (wCall pSortSetI (wCons (wVar 0) wNil)) (pName 1))
    (wRet (wLc 2 (wISeq (wVar 1)) (wB (wOp (bEq false) (wLc 3 (wISeq (wVar 1)) (wAndT (wB (wOp (bEq true) (wVar 3) (wVar 2))) (wB (wOp (bEq false) (wOp bAnd (wVar 3) (wVar 2)) (wVar 3)))) (wVar 3)) (wLst wNil))) (wVar 2))))
def N15_least : List Str := ["a", "b", "c", "d"]
def sp15_least : PSp := fun vs S Q => ∃ (m : Nat) (cs : List Nat), vs = [.ref m] ∧ SL S m (cv cs) ∧ cs.length < 306 ∧ ∀ ds S' p, Anti ds → (∀ c, c ∈ ds ↔ c ∈ cs ∧ ∀ o ∈ cs, o &&& c = o → o = c) → ds.length ≤ cs.length → Ext S S' → S'[p]? = some (.lst (cv ds)) → S.length ≤ p → Q (.ref p) S'
theorem len15_least : ∀ vs S Q, sp15_least vs S Q → vs.length = 1 := by rintro _ S Q ⟨m, cs, rfl, _⟩; rfl
theorem ints_nats {ns : List Int} (h : ∀ k ∈ ns, 0 ≤ k) : ns.map PV.int = cv (ns.map Int.toNat) := by
  unfold cv
  rw [List.map_map]
  refine List.map_congr_left fun k hk => ?_
  show PV.int k = PV.int ((k.toNat : Nat) : Int)
  rw [Int.toNat_of_nonneg (h k hk)]
theorem rd15_least : ∀ vs S Q, sp15_least vs S Q → w15_least { nx := fun _ S' => Q .non S', rt := Q } (startP N15_least vs) S := by
  rintro _ S Q ⟨m, cs, rfl, hs, hl, q⟩
  have e0 : cv cs = (cs.map fun c : Nat => (c : Int)).map PV.int := by unfold cv; rw [List.map_map]; rfl
  rw [e0] at hs
  refine sa ⟨_, rfl, _, hs, by rw [List.length_map]; exact hl, fun ns mem srt => ?_⟩
  have pos : ∀ k ∈ ns, 0 ≤ k := fun k hk => by
    obtain ⟨c, _, rfl⟩ := List.mem_map.mp ((mem k).mp hk); omega
  rw [ints_nats pos]
  generalize hes : ns.map Int.toNat = es
  have em : ∀ c, c ∈ es ↔ c ∈ cs := fun c => by
    rw [← hes, List.mem_map]
    constructor
    · rintro ⟨k, hk, rfl⟩
      obtain ⟨d, hd, e⟩ := List.mem_map.mp ((mem k).mp hk)
      rw [← e]; simpa using hd
    · intro h
      exact ⟨(c : Int), (mem _).mpr (List.mem_map.mpr ⟨c, h, rfl⟩), by simp⟩
  have end_ : es.Nodup := by
    rw [← hes]
    refine List.Pairwise.map _ ?_ (List.Pairwise.and_mem.mp srt)
    rintro a b ⟨ha, hb, h⟩
    have := pos a ha
    omega
  have el : es.length ≤ cs.length := nodup_le end_ fun x hx => (em x).mp hx
  have hs1 : SL (S ++ [MO.lst (cv es)]) S.length (cv es) := sl_end _ _
  have xx : Ext S (S ++ [MO.lst (cv es)]) := Ext.app _ _
  generalize S ++ [MO.lst (cv es)] = S1 at hs1 xx
  refine ⟨_, rfl, ⟨_, hs1⟩, _, hs1, ?_⟩
  refine runLc_ext (f := fun x => x) (g := fun p => match p with | .int i => isMin es i.toNat | _ => false) _ _ _ (fun S2 x2 => x2.sl hs1) (fun x hx S2 x2 Q' q' => ?_) (fun x hx _ S2 x2 Q' q' => ⟨_, rfl, q' S2 (.refl S2)⟩) (by rw [List.length_map]; show 0 + _ < _; omega) fun S2 x2 => ?_
  · obtain ⟨c, hc, rfl⟩ := mem_cv hx
    have hs2 := x2.sl hs1
    refine ⟨_, rfl, ⟨_, hs2⟩, _, hs2, ?_⟩
    refine runLc_pure (f := fun x => x) (g := fun p => match p with | .int o => !decide (o = (c : Int)) && decide (Builtin.bitAnd o c = o) | _ => false) hs2 _ [] (fun x hx Q' q' => ?_) (fun x hx _ Q' q' => ⟨_, rfl, q'⟩) (by rw [List.length_map]; show 0 + _ < _; omega) ?_
    · obtain ⟨o, _, rfl⟩ := mem_cv hx
      refine ⟨_, rfl, _, rfl, _, rfl, ?_⟩
      dsimp only at q'
      by_cases e : (o : Int) = (c : Int)
      · rw [decide_eq_true e] at q' ⊢
        exact iteF q'
      · rw [decide_eq_false e] at q' ⊢
        refine iteT ⟨_, rfl, _, rfl, _, rfl, _, rfl, ?_⟩
        rw [Bool.xor_false]
        exact q'
    · rw [List.nil_append, List.map_id', cv_filter (h := fun o => decide (o ≠ c) && decide (o &&& c = o)) fun o _ => by
        dsimp only
        rw [bitAnd_nat]
        have e1 : decide ((o : Int) = (c : Int)) = decide (o = c) := decide_eq_decide.mpr (by omega)
        have e2 : decide (((o &&& c : Nat) : Int) = (o : Int)) = decide (o &&& c = o) := decide_eq_decide.mpr (by omega)
        rw [e1, e2]
        by_cases h : o = c <;> simp [h]]
      refine ⟨Nat.zero_le _, ?_⟩
      refine ⟨_, _, .lst (SL.app _ (sl_end _ _)) (pd_cv _ _), .lst (sl_end _ _) .nil, shaped_ints _, rfl, _, rfl, ?_⟩
      rw [eqv_nil, List.isEmpty_map, List.isEmpty_map]
      exact q' _ ((Ext.app _ _).trans (Ext.app _ _))
  · rw [List.nil_append, List.map_id', cv_filter (h := isMin es) fun o _ => rfl]
    have mm : ∀ c, c ∈ es.filter (isMin es) ↔ c ∈ cs ∧ ∀ o ∈ cs, o &&& c = o → o = c := fun c => by
      rw [List.mem_filter, isMin_iff, em]
      exact and_congr_right fun _ => ⟨fun h o ho => h o ((em o).mpr ho), fun h o ho => h o ((em o).mp ho)⟩
    refine q (es.filter (isMin es)) _ _ ⟨end_.filter _, fun a ha b hb e => ?_⟩ mm (Nat.le_trans (List.length_filter_le _ _) el) ((xx.trans x2).trans (Ext.app _ _)) (get_end _ _) (xx.trans x2).len
    exact ((mm b).mp hb).2 a ((mm a).mp ha).1 e
/-! ### _law_family -/
def w15_family (sp_l_set : PSp) : WS :=
    (wRet (wTup (wCons (wVar 0) (wCons (wCall pTuple (wCons (wCall pSort (wCons (wLc 2 (wISeq (wVar 1)) wYes (wCall sp_l_set (wCons (wVar 0) (wCons (wVar 2) wNil)))) wNil)) wNil)) wNil))))
def N15_family : List Str := ["a", "b", "c"]
def sp15_family : PSp := fun vs S Q => ∃ (n m : Nat) (cs : List Nat), vs = [.int (n : Nat), .ref m] ∧ n ≤ 8 ∧ SL S m (cv cs) ∧ Anti cs ∧ (∀ c ∈ cs, c < 2 ^ n) ∧ cs.length < 306 ∧ ∀ S', Ext S S' → Q (fv (.int (n : Nat)) cs) S'
theorem len15_family : ∀ vs S Q, sp15_family vs S Q → vs.length = 2 := by rintro _ S Q ⟨n, m, cs, rfl, _⟩; rfl
theorem rd15_family : ∀ vs S Q, sp15_family vs S Q → w15_family sp15_set { nx := fun _ S' => Q .non S', rt := Q } (startP N15_family vs) S := by
  rintro _ S Q ⟨n, m, cs, rfl, hn, hs, A, hc, hl, q⟩
  refine ⟨_, rfl, _, rfl, ⟨_, hs⟩, _, hs, ?_⟩
  refine runLc_ext (f := fun x => match x with | .int c => sv c.toNat | _ => .non) (g := fun _ => true) _ _ _ (fun S2 x2 => x2.sl hs) (fun x hx S2 x2 Q' q' => q' S2 (.refl S2)) (fun x hx _ S2 x2 Q' q' => ?_) (by rw [List.length_map]; show 0 + _ < _; omega) fun S2 x2 => ?_
  · obtain ⟨c, hc', rfl⟩ := mem_cv hx
    exact ⟨_, rfl, _, rfl, n, c, rfl, hn, hc c hc', q'⟩
  · rw [List.nil_append, List.filter_eq_self.mpr (fun _ _ => rfl)]
    have e : (cv cs).map (fun x => match x with | .int c => sv c.toNat | _ => .non) = (cs.map (bset 8)).map tv := by
      unfold cv
      rw [List.map_map, List.map_map]; rfl
    rw [e]
    refine .inr ⟨_, sl_end _ _, fun rows' h1 h2 => ?_⟩
    obtain rfl := anti_rows A (lt256 hn hc) h1 h2
    exact ⟨_, sl_end _ _, sz (by decide : 2 ≤ 1000), q _ ((x2.trans (Ext.app _ _)).trans (Ext.app _ _))⟩
/-! ### _law_n -/
def w15_n (sp_l_draw : PSp) : WS :=
    (wSeq (wIfS (wB (wOp (bEq false) (wCall sp_l_draw (wCons (wVar 0) (wCons (wC (.int 16)) wNil))) (wC (.int 0)))) (wRet (wOp bAdd (wC (.int 6)) (wCall sp_l_draw (wCons (wVar 0) (wCons (wC (.int 3)) wNil))))) wNext)
    (wRet (wCall pMax2 (wCons (wVar 1) (wCons (wOp bIdx (wLst (wCons (wC (.int 0)) (wCons (wC (.int 1)) (wCons (wC (.int 2)) (wCons (wC (.int 3)) (wCons (wC (.int 3)) (wCons (wC (.int 4)) (wCons (wC (.int 4)) (wCons (wC (.int 5)) wNil))))))))) (wCall sp_l_draw (wCons (wVar 0) (wCons (wC (.int 8)) wNil)))) wNil)))))
def N15_n : List Str := ["a", "b"]
def sp15_n : PSp := fun vs S Q => ∃ (m T l : Nat), vs = [.ref m, .int (l : Nat)] ∧ l ≤ 5 ∧ T < 900000 ∧ Tape S m T ∧ ∀ (n : Nat) (S' : Sto), l ≤ n → n ≤ 8 → Grow m S S' → Tape S' m (T + 2) → Q (.int (n : Nat)) S'
theorem len15_n : ∀ vs S Q, sp15_n vs S Q → vs.length = 2 := by rintro _ S Q ⟨m, T, l, rfl, _⟩; rfl
theorem rd15_n : ∀ vs S Q, sp15_n vs S Q → w15_n sp14_draw { nx := fun _ S' => Q .non S', rt := Q } (startP N15_n vs) S := by
  rintro _ S Q ⟨m, T, l, rfl, hl, hT, F, q⟩
  refine sret ⟨_, rfl, m, T, 16, rfl, by decide, by decide, by omega, F, fun r S1 hr G1 F1 => ⟨_, rfl, ?_⟩⟩
  by_cases h : (r : Int) = 0
  · rw [decide_eq_true h]
    refine iteT ⟨_, rfl, m, _, 3, rfl, by decide, by decide, by omega, F1, fun d S2 hd G2 F2 => ?_⟩
    have e : (6 : Int) + (d : Int) = ((6 + d : Nat) : Int) := by omega
    show Q (.int (6 + (d : Int))) S2
    rw [e]
    exact q _ _ (by omega) (by omega) (G1.trans G2) F2
  · rw [decide_eq_false h]
    have hS : S1.length ≠ m := by have := F1.lt; omega
    refine iteF ⟨_, rfl, sz (by decide : 8 ≤ 1000), _, rfl, m, _, 8, rfl, by decide, by decide, by omega, F1.app _, fun d S2 hd G2 F2 => ?_⟩
    obtain ⟨n, hn, hat⟩ := at_cv (L := [0, 1, 2, 3, 3, 4, 4, 5]) (i := (d : Int)) (by omega) hd
    have n5 : n ≤ 5 := (show ∀ n ∈ [0, 1, 2, 3, 3, 4, 4, 5], n ≤ 5 by decide) n hn
    refine ⟨_, _, .inl (G2.keep _ _ hS (get_end S1 _)), hat, ?_⟩
    have e : max (l : Int) (n : Int) = ((max l n : Nat) : Int) := by omega
    show Q (.int (max (l : Int) (n : Int))) S2
    rw [e]
    exact q _ _ (by omega) (by omega) (G1.trans (((Grow.refl m S1).app _).trans G2)) F2
/-! ### _law_members -/
def w15_members (sp_l_draw : PSp) (sp_l_size : PSp) (sp_l_least : PSp) : WS :=
    (wSeq (wAsg (wCall sp_l_draw (wCons (wVar 0) (wCons (wC (.int 12)) wNil))) (pName 2))
    (wSeq (wIfS (wOrT (wB (wOp (bEq false) (wVar 1) (wC (.int 0)))) (wB (wOp (bEq false) (wVar 2) (wC (.int 0))))) (wRet (wOp bIdx (wLst (wCons (wLst wNil) (wCons (wLst (wCons (wC (.int 0)) wNil)) wNil))) (wCall sp_l_draw (wCons (wVar 0) (wCons (wC (.int 2)) wNil))))) wNext)
    (wSeq (wIfS (wB (wOp bLt (wVar 2) (wC (.int 3)))) (wSeq (wAsg (wOp bAdd (wC (.int 1)) (wCall sp_l_draw (wCons (wVar 0) (wCons (wVar 1) wNil)))) (pName 3))
    (wSeq (wAsg (wLc 5 (wRange1 (wCons (wOp bShl (wC (.int 1)) (wVar 1)) wNil)) (wB (wOp (bEq false) (wCall sp_l_size (wCons (wVar 5) wNil)) (wVar 3))) (wVar 5)) (pName 4))
    (wRet (wLc 5 (wISeq (wVar 4)) (wOrT (wB (wOp (bEq false) (wVar 2) (wC (.int 1)))) (wB (wOp bGt (wCall sp_l_draw (wCons (wVar 0) (wCons (wC (.int 5)) wNil))) (wC (.int 0))))) (wVar 5))))) wNext)
    (wRet (wCall sp_l_least (wCons (wLc 6 (wRange1 (wCons (wOp bAdd (wC (.int 1)) (wCall sp_l_draw (wCons (wVar 0) (wCons (wC (.int 10)) wNil)))) wNil)) wYes (wOp bAdd (wC (.int 1)) (wCall sp_l_draw (wCons (wVar 0) (wCons (wOp bSub (wOp bShl (wC (.int 1)) (wVar 1)) (wC (.int 1))) wNil))))) wNil))))))
def N15_members : List Str := ["a", "b", "c", "d", "e", "f", "g"]
def sp15_members : PSp := fun vs S Q => ∃ (m T n : Nat), vs = [.ref m, .int (n : Nat)] ∧ n ≤ 8 ∧ T < 900000 ∧ Tape S m T ∧ ∀ (cs : List Nat) (S' : Sto) (p : Nat), Anti cs → (∀ c ∈ cs, c < 2 ^ n) → cs.length ≤ 256 → S'[p]? = some (.lst (cv cs)) → Grow m S S' → Tape S' m (T + 300) → m < p → Q (.ref p) S'
theorem len15_members : ∀ vs S Q, sp15_members vs S Q → vs.length = 2 := by rintro _ S Q ⟨m, T, n, rfl, _⟩; rfl
/-- all of one size -/
theorem anti_size {n k : Nat} (hn : n ≤ 8) : Anti ((List.range (2 ^ n)).filter fun c => decide (((bset 8 c).length : Int) = k)) := by
  refine ⟨List.nodup_range.filter _, fun a ha b hb e => ?_⟩
  obtain ⟨a1, a2⟩ := List.mem_filter.mp ha
  obtain ⟨b1, b2⟩ := List.mem_filter.mp hb
  have p := p256 hn
  have a1 := List.mem_range.mp a1
  have b1 := List.mem_range.mp b1
  have a2 := of_decide_eq_true a2
  have b2 := of_decide_eq_true b2
  exact sub_len (by omega) (by omega) e (by omega)
theorem rd15_members : ∀ vs S Q, sp15_members vs S Q → w15_members sp14_draw sp15_size sp15_least { nx := fun _ S' => Q .non S', rt := Q } (startP N15_members vs) S := by
  rintro _ S Q ⟨m, T, n, rfl, hn, hT, F, q⟩
  obtain ⟨hp, hp1, hp2⟩ := pow_of n hn
  refine sa ⟨_, rfl, m, T, 12, rfl, by decide, by decide, by omega, F, fun way S1 hw G1 F1 => ?_⟩
  have hm1 := F1.lt
  refine sret ⟨_, rfl, _, rfl, ?_⟩
  -- one of two
  have two : sp14_draw [.ref m, .int 2] ((S1 ++ [MO.lst []] ++ [MO.lst [.int 0]]) ++ [MO.lst [.ref S1.length, .ref (S1 ++ [MO.lst []]).length]]) fun d S2 => bIdx (.ref (S1 ++ [MO.lst []] ++ [MO.lst [.int 0]]).length) d S2 Q := by
    refine ⟨m, _, 2, rfl, by decide, by decide, by omega, ((F1.app _).app _).app _, fun d S2 hd G2 F2 => ?_⟩
    have g1 := (Ext.app ((S1 ++ [MO.lst []]) ++ [MO.lst [.int 0]]) [MO.lst [.ref S1.length, .ref (S1 ++ [MO.lst []]).length]]).keep _ _ ((Ext.app (S1 ++ [MO.lst []]) [MO.lst [.int 0]]).keep _ _ (get_end S1 (MO.lst [])))
    have g2 := (Ext.app ((S1 ++ [MO.lst []]) ++ [MO.lst [.int 0]]) [MO.lst [.ref S1.length, .ref (S1 ++ [MO.lst []]).length]]).keep _ _ (get_end (S1 ++ [MO.lst []]) (MO.lst [.int 0]))
    have g3 := get_end ((S1 ++ [MO.lst []]) ++ [MO.lst [.int 0]]) (MO.lst [.ref S1.length, .ref (S1 ++ [MO.lst []]).length])
    have n3 : (S1 ++ [MO.lst []] ++ [MO.lst [.int 0]]).length ≠ m := by rw [List.length_append, List.length_append]; omega
    have n2 : (S1 ++ [MO.lst []]).length ≠ m := by rw [List.length_append]; omega
    have G : Grow m S S2 := (((G1.app _).app _).app _).trans G2
    rcases (show d = 0 ∨ d = 1 by omega) with rfl | rfl
    · exact ⟨_, _, .inl (G2.keep _ _ n3 g3), rfl, q [] S2 _ anti_nil (fun _ h => nomatch h) (by decide) (G2.keep _ _ (by omega) g1) G (F2.mono (by omega)) hm1⟩
    · exact ⟨_, _, .inl (G2.keep _ _ n3 g3), rfl, q [0] S2 _ (anti_one 0) (fun c h => by rw [List.mem_singleton.mp h]; omega) (by decide) (G2.keep _ _ n2 g2) G (F2.mono (by omega)) (by rw [List.length_append]; omega)⟩
  by_cases h0 : (n : Int) = 0
  · rw [decide_eq_true h0]
    exact iteT (iteT ⟨sz (by decide : 0 ≤ 1000), sz (by decide : 1 ≤ 1000), sz (by decide : 2 ≤ 1000), _, rfl, two⟩)
  rw [decide_eq_false h0]
  refine iteF ⟨_, rfl, _, rfl, ?_⟩
  by_cases hw0 : (way : Int) = 0
  · rw [decide_eq_true hw0]
    exact iteT ⟨sz (by decide : 0 ≤ 1000), sz (by decide : 1 ≤ 1000), sz (by decide : 2 ≤ 1000), _, rfl, two⟩
  rw [decide_eq_false hw0]
  clear two
  refine iteF (sifn ⟨_, rfl, _, rfl, ?_⟩)
  by_cases hw3 : (way : Int) < 3
  · rw [decide_eq_true hw3]
    refine iteT (sa ⟨_, rfl, _, rfl, m, _, _, rfl, by omega, by omega, by omega, F1, fun d S2 hd G2 F2 => ?_⟩)
    refine sa ⟨_, rfl, ⟨by omega, by omega, by decide⟩, _, rfl, ⟨by rw [hp]; omega, by rw [hp]; omega⟩, ?_⟩
    rw [hp, Int.toNat_natCast, range_cv]
    refine runLc_ext (f := fun x => x) (g := fun p => match p with | .int c => decide (((bset 8 c.toNat).length : Int) = ((1 + d : Nat) : Int)) | _ => false) _ _ _ (fun _ _ => trivial) (fun x hx S3 x3 Q' q' => ?_) (fun x hx _ S3 x3 Q' q' => ⟨_, rfl, q' S3 (.refl S3)⟩) (by rw [List.length_map, List.length_range]; show 0 + _ < _; omega) fun S3 x3 => ?_
    · obtain ⟨c, hc, rfl⟩ := mem_cv hx
      refine ⟨_, rfl, c, rfl, fun S4 x4 => ⟨_, rfl, _, rfl, ?_⟩⟩
      rw [Bool.xor_false]
      have := q' S4 x4
      dsimp only at this
      rw [show ((1 + d : Nat) : Int) = 1 + (d : Int) by omega] at this
      exact this
    rw [List.nil_append, List.map_id', cv_filter (h := fun c => decide (((bset 8 c).length : Int) = ((1 + d : Nat) : Int))) fun c _ => rfl]
    have A := anti_size (k := 1 + d) hn
    have Al : ∀ c ∈ (List.range (2 ^ n)).filter (fun c => decide (((bset 8 c).length : Int) = ((1 + d : Nat) : Int))), c < 2 ^ n := fun c h => List.mem_range.mp (List.mem_filter.mp h).1
    have Ak : ((List.range (2 ^ n)).filter (fun c => decide (((bset 8 c).length : Int) = ((1 + d : Nat) : Int)))).length ≤ 256 := Nat.le_trans (List.length_filter_le _ _) (by rw [List.length_range]; exact hp2)
    generalize (List.range (2 ^ n)).filter (fun c => decide (((bset 8 c).length : Int) = ((1 + d : Nat) : Int))) = cs at A Al Ak
    have hg := get_end S3 (MO.lst (cv cs))
    have G3 : Grow m S (S3 ++ [MO.lst (cv cs)]) := ((G1.trans G2).trans (x3.grow m)).app _
    have F3 : Tape (S3 ++ [MO.lst (cv cs)]) m (T + 1 + 1) := (F2.ext x3).app _
    have l3 : m < S3.length := Nat.lt_of_lt_of_le F2.lt x3.len
    generalize S3 ++ [MO.lst (cv cs)] = S4 at hg G3 F3
    refine ⟨_, rfl, ⟨_, .inl hg⟩, _, .inl hg, ?_⟩
    refine runLc_by (fun ys acc S' => ∃ ds rs : List Nat, acc = cv ds ∧ ys = cv rs ∧ (ds ++ rs).Sublist cs ∧ rs.length + ds.length ≤ cs.length ∧ Grow m S4 S' ∧ ∃ T', Tape S' m T' ∧ T' + rs.length ≤ T + 2 + cs.length) ?_ ?_ ?_ (cv cs) [] S4 ⟨[], cs, rfl, rfl, List.Sublist.refl _, by simp, .refl _ _, _, F3, by omega⟩
    · rintro ys acc S' ⟨ds, rs, _, _, _, _, G, _⟩
      exact .inl (G.keep _ _ (by omega) hg)
    · rintro acc S' ⟨ds, rs, rfl, hrs, sub, hl, G, T', F', hT'⟩
      have sub' : ds.Sublist cs := (List.sublist_append_left ds rs).trans sub
      have hm' := F'.lt
      exact q ds _ _ (A.sub sub') (fun c h => Al c (sub'.subset h)) (Nat.le_trans sub'.length_le Ak) (get_end _ _) ((G3.trans G).app _) ((F'.mono (by omega)).app _) hm'
    · rintro x r acc S' K ⟨ds, rs, rfl, hrs, sub, hl, G, T', F', hT'⟩ hK
      cases rs with
      | nil => exact nomatch hrs
      | cons c rs =>
        obtain ⟨rfl, rfl⟩ := List.cons.inj hrs
        rw [List.length_cons] at hl hT'
        have keep : ∀ S2, Grow m S' S2 → (∃ T2, Tape S2 m T2 ∧ T2 + rs.length ≤ T + 2 + cs.length) → wVar 5 ([some (.ref m), some (.int (n : Nat)), some (.int (way : Nat)), some (.int (1 + (d : Int))), some (.ref S3.length), none, none].set 5 (some (PV.int (c : Nat)))) S2 fun y S2 => (cv ds).length < sizeLine ∧ K (cv ds ++ [y]) S2 := fun S2 g2 t2 =>
          ⟨_, rfl, Nat.lt_of_lt_of_le (show (cv ds).length < 1000 by unfold cv; rw [List.length_map]; omega) (by decide), hK _ _ ⟨ds ++ [c], rs, by unfold cv; rw [List.map_append]; rfl, rfl, by rw [List.append_assoc]; exact sub, by rw [List.length_append, List.length_singleton]; omega, G.trans g2, t2⟩⟩
        have drop : ∀ S2, Grow m S' S2 → (∃ T2, Tape S2 m T2 ∧ T2 + rs.length ≤ T + 2 + cs.length) → K (cv ds) S2 := fun S2 g2 t2 =>
          hK _ _ ⟨ds, rs, rfl, rfl, (List.Sublist.append_left (List.sublist_cons_self c rs) ds).trans sub, by omega, G.trans g2, t2⟩
        refine ⟨_, rfl, _, rfl, ?_⟩
        by_cases h1 : (way : Int) = 1
        · rw [decide_eq_true h1]
          exact iteT (iteT (keep S' (.refl _ _) ⟨T', F', by omega⟩))
        · rw [decide_eq_false h1]
          refine iteF ⟨_, rfl, m, T', 5, rfl, by decide, by decide, by omega, F', fun e S2 he G2 F2 => ⟨_, rfl, ?_⟩⟩
          by_cases h2 : 0 < (e : Int)
          · rw [decide_eq_true h2]
            exact iteT (keep S2 G2 ⟨_, F2, by omega⟩)
          · rw [decide_eq_false h2]
            exact iteF (drop S2 G2 ⟨_, F2, by omega⟩)
  · rw [decide_eq_false hw3]
    refine iteF ⟨_, rfl, m, _, 10, rfl, by decide, by decide, by omega, F1, fun d S2 hd G2 F2 => ?_⟩
    refine ⟨_, rfl, ⟨by omega, by omega⟩, ?_⟩
    have e1 : ((1 : Int) + (d : Int)).toNat = 1 + d := by omega
    rw [e1]
    have lr : (rangeP 0 (1 + d)).length = 1 + d := rangeP_length _ _
    have n1 : 2 ≤ 2 ^ n := by
      have : n ≠ 0 := fun z => h0 (by omega)
      calc 2 = 2 ^ 1 := rfl
        _ ≤ 2 ^ n := Nat.pow_le_pow_right (by decide) (by omega)
    refine runLc_by (fun ys acc S' => ∃ ds : List Nat, acc = cv ds ∧ ds.length + ys.length = 1 + d ∧ (∀ c ∈ ds, c < 2 ^ n) ∧ Grow m S2 S' ∧ Tape S' m (T + 1 + 1 + ds.length)) ?_ ?_ ?_ _ [] S2 ⟨[], rfl, by simpa using lr, (fun _ h => nomatch h), .refl _ _, F2⟩
    · rintro ys acc S' _
      trivial
    · rintro acc S' ⟨ds, rfl, hd', hb, G, F'⟩
      have hd' : ds.length = 1 + d := by simpa using hd'
      have hm' := F'.lt
      refine ⟨_, ds, rfl, sl_end _ _, by omega, fun es S4 p A mem el x4 g4 lp => ?_⟩
      have xx : Ext S' S4 := (Ext.app S' _).trans x4
      exact q es S4 p A (fun c h => hb c ((mem c).mp h).1) (by omega) g4 (((G1.trans G2).trans G).trans (xx.grow m)) ((F'.ext xx).mono (by omega)) (by rw [List.length_append] at lp; omega)
    · rintro x r acc S' K ⟨ds, rfl, hd', hb, G, F'⟩ hK
      rw [List.length_cons] at hd'
      refine iteT (B := K (cv ds) S') ⟨_, rfl, _, rfl, ⟨by omega, by omega, by decide⟩, m, _, _, rfl, by rw [hp]; omega, by rw [hp]; omega, by omega, F', fun e S3 he G3 F3 => ?_⟩
      rw [hp] at he
      refine ⟨Nat.lt_of_lt_of_le (show (cv ds).length < 1000 by unfold cv; rw [List.length_map]; omega) (by decide), hK _ _ ⟨ds ++ [1 + e], ?_, by rw [List.length_append, List.length_singleton]; omega, fun c hc => ?_, G.trans G3, by rw [List.length_append, List.length_singleton, ← Nat.add_assoc]; exact F3⟩⟩
      · unfold cv
        rw [List.map_append, List.map_singleton, show ((1 + e : Nat) : Int) = 1 + (e : Int) by omega]
      · rcases List.mem_append.mp hc with h | h
        · exact hb c h
        · rw [List.mem_singleton.mp h]; omega
/-! ### without_place, kept_at -/
theorem in_sv {p c : Nat} (hp : p < 8) : inP (.int (p : Nat)) ((bset 8 c).map PV.int) = c.testBit p := by
  have e : inP (.int (p : Nat)) (iv (bset 8 c)) = decide ((p : Int) ∈ bset 8 c) := iv_in _ _
  have e2 : decide ((p : Int) ∈ bset 8 c) = c.testBit p := by
    cases hb : c.testBit p with
    | true => exact decide_eq_true (mem_bset'.mpr ⟨hp, hb⟩)
    | false => exact decide_eq_false fun h => by rw [(mem_bset'.mp h).2] at hb; exact nomatch hb
  exact e.trans e2
theorem lessBit_bit (c p i : Nat) : (c - (c &&& 2 ^ p)).testBit i = (c.testBit i && !decide (p = i)) := by
  rw [sub_and_bit, Nat.testBit_two_pow]
theorem lessBit_lt {c p n : Nat} (h : c < n) : c - (c &&& 2 ^ p) < n := by omega
theorem taken_bit {c p : Nat} (hp : p < 8) : taken (bset 8 c) [((p : Nat) : Int)] = bset 8 (c - (c &&& 2 ^ p)) := by
  refine sorted_ext ((bset_sorted 8 c).filter _) (bset_sorted 8 _) fun x => ?_
  unfold taken
  rw [List.mem_filter, mem_bset, mem_bset]
  constructor
  · rintro ⟨⟨i, rfl, h1, h2⟩, h3⟩
    refine ⟨i, rfl, h1, ?_⟩
    rw [lessBit_bit, h2, Bool.true_and]
    have : (i : Int) ≠ (p : Int) := by simpa using h3
    rw [decide_eq_false (by omega)]; rfl
  · rintro ⟨i, rfl, h1, h2⟩
    rw [lessBit_bit, Bool.and_eq_true] at h2
    have h3 : p ≠ i := by simpa using h2.2
    exact ⟨⟨i, rfl, h1, h2.1⟩, by simp; omega⟩
end M

/-! Small ones: places left out and places kept, told by codes. -/
namespace M
open PySem L2
variable [Tabs]
/-- the code that has the places below n at which f is true -/
def mk : Nat → (Nat → Bool) → Nat
  | 0, _ => 0
  | n + 1, f => mk n f + if f n = true then 2 ^ n else 0
theorem mk_lt : ∀ (n : Nat) (f : Nat → Bool), mk n f < 2 ^ n
  | 0, _ => Nat.one_pos
  | n + 1, f => by
    have := mk_lt n f
    unfold mk
    rw [Nat.pow_succ]
    split <;> omega
theorem mk_bit : ∀ (n : Nat) (f : Nat → Bool) (i : Nat), (mk n f).testBit i = (decide (i < n) && f i)
  | 0, f, i => by simp [mk]
  | n + 1, f, i => by
    have ih := mk_bit n f i
    have hl := mk_lt n f
    unfold mk
    by_cases hf : f n = true
    · rw [if_pos hf, Nat.add_comm]
      rcases Nat.lt_trichotomy i n with h | h | h
      · rw [Nat.testBit_two_pow_add_gt h, ih, decide_eq_true h, decide_eq_true (show i < n + 1 by omega)]
      · subst h
        rw [Nat.testBit_two_pow_add_eq, ih, decide_eq_false (Nat.lt_irrefl i), decide_eq_true (Nat.lt_succ_self i), hf]; rfl
      · rw [decide_eq_false (show ¬ i < n + 1 by omega), Bool.false_and]
        refine Nat.testBit_lt_two_pow (Nat.lt_of_lt_of_le (show 2 ^ n + mk n f < 2 ^ (n + 1) by rw [Nat.pow_succ]; omega) (Nat.pow_le_pow_right (by decide) (by omega)))
    · rw [if_neg hf, Nat.add_zero, ih]
      by_cases h : i = n
      · subst h
        have : f i = false := by simpa using hf
        rw [this]; simp
      · have : decide (i < n + 1) = decide (i < n) := decide_eq_decide.mpr (by omega)
        rw [this]
/-! ### small_one -/
/-! ### numbers drawn, one for each place -/
theorem Tape.ne {S : Sto} {m T w : Nat} {ws : List Nat} (F : Tape S m T) (h : S[w]? = some (.lst (cv ws))) : w ≠ m := by
  rintro rfl
  obtain ⟨c, a, l, ns, h1, _⟩ := F.ex
  rw [h1] at h
  injection h with h
  injection h with h
  cases ws with
  | nil => exact nomatch h
  | cons w ws => exact nomatch (List.cons.inj h).1
end M

/-! Families by what they hold: the other one, small ones, narrowed ones. -/
namespace M
open PySem L2
variable [Tabs]
theorem sub_bits {a x : Nat} : a &&& x = a ↔ ∀ i, a.testBit i = true → x.testBit i = true := by
  constructor
  · intro h i hi
    rw [← h, Nat.testBit_and, Bool.and_eq_true] at hi
    exact hi.2
  · intro h
    apply Nat.eq_of_testBit_eq
    intro i
    rw [Nat.testBit_and]
    cases ha : a.testBit i with
    | false => rfl
    | true => rw [h i ha]; rfl
theorem fcs_below {cs : List Nat} (hc : ∀ c ∈ cs, c < 256) : ∀ c ∈ cs, ∃ d ∈ fcs cs, d &&& c = d := fun c h => by
  have key : ∀ k c, c ≤ k → c ∈ cs → ∃ d ∈ fcs cs, d &&& c = d := fun k => by
    induction k with
    | zero =>
      intro c hk h
      refine ⟨c, (mem_fcs hc).mpr ⟨h, fun o ho eo => ?_⟩, Nat.and_self c⟩
      have : o ≤ c := by rw [← eo]; exact Nat.and_le_right
      omega
    | succ k ih =>
      intro c hk h
      by_cases hm : ∀ o ∈ cs, o &&& c = o → o = c
      · exact ⟨c, (mem_fcs hc).mpr ⟨h, hm⟩, Nat.and_self c⟩
      · obtain ⟨o, hh⟩ := Classical.not_forall.mp hm
        obtain ⟨ho, hh⟩ := Classical.not_imp.mp hh
        obtain ⟨eo, ne⟩ := Classical.not_imp.mp hh
        have : o ≤ c := by rw [← eo]; exact Nat.and_le_right
        obtain ⟨d, d1, d2⟩ := ih o (by omega) ho
        exact ⟨d, d1, and_trans d2 eo⟩
  exact key c c (Nat.le_refl _) h
theorem hold_fcs {cs : List Nat} (hc : ∀ c ∈ cs, c < 256) (x : Nat) : hold (fcs cs) x = hold cs x := by
  rw [Bool.eq_iff_iff, hold_iff, hold_iff]
  constructor
  · rintro ⟨a, h, e⟩; exact ⟨a, ((mem_fcs hc).mp h).1, e⟩
  · rintro ⟨a, h, e⟩
    obtain ⟨d, d1, d2⟩ := fcs_below hc a h
    exact ⟨d, d1, and_trans d2 e⟩
theorem fam_hold {n : Nat} {cs ds : List Nat} (hn : n ≤ 8) (hc : ∀ c ∈ cs, c < 2 ^ n) (hd : ∀ c ∈ ds, c < 2 ^ n) (h : ∀ x, x < 2 ^ n → hold cs x = hold ds x) : fam cs = fam ds := by
  refine (told_eq hn hc hd).mp ?_
  unfold hb
  refine List.map_congr_left fun x hx => ?_
  rw [hold_fcs (lt256 hn hc), hold_fcs (lt256 hn hd)]
  exact h x (List.mem_range.mp hx)
/-- what the other family holds -/
theorem hold_mts {n x : Nat} {cs : List Nat} (hn : n ≤ 8) (hc : ∀ c ∈ cs, c < 2 ^ n) (hx : x < 2 ^ n) : hold (mts n (fcs cs)) x = !hold cs (comp n x) := by
  have e : hold (mts n (fcs cs)) x = meet (fcs cs) x := by
    rw [Bool.eq_iff_iff, hold_iff]
    constructor
    · rintro ⟨a, h, e⟩
      exact meet_mono e (List.mem_filter.mp h).2
    · intro h
      exact ⟨x, List.mem_filter.mpr ⟨List.mem_range.mpr hx, h⟩, Nat.and_self x⟩
  rw [e]
  have := meet_comp (n := n) (x := comp n x) (fcs_lt hn hc)
  rw [comp_comp] at this
  rw [this, hold_fcs (lt256 hn hc)]
/-! ### narrowed -/
def pls (P : Nat) : List Nat := (List.range 8).filter fun p => P.testBit p
def pat (P j : Nat) : Nat := (pls P).getD j 0
/-- a code by P's places, counted from 0, and back -/
def rel (P c : Nat) : Nat := mk (pls P).length fun j => c.testBit (pat P j)
def ext (P y : Nat) : Nat := mk 8 fun i => (List.range (pls P).length).any fun j => y.testBit j && decide (pat P j = i)
/-! ### called_by -/
/-! ### narrowed -/
theorem anti_of_fcs {cs : List Nat} (hc : ∀ c ∈ cs, c < 256) : Anti (fcs cs) := by
  refine ⟨?_, fun a ha b hb e => ((mem_fcs hc).mp hb).2 a ((mem_fcs hc).mp ha).1 e⟩
  unfold fcs
  refine List.Pairwise.map _ ?_ (List.Pairwise.and_mem.mp (fam_srt cs).nodup)
  rintro a b ⟨ha, hb, h⟩ e
  obtain ⟨x, h1, _, rfl⟩ := fam_mem.mp ha
  obtain ⟨y, h2, _, rfl⟩ := fam_mem.mp hb
  rw [code_b8 (hc x h1), code_b8 (hc y h2)] at e
  exact h (by rw [e])
end M

/-! Families put together, and with one place more: by codes, and what they hold. -/
namespace M
open PySem L2
variable [Tabs]
theorem shl_bit (d a i : Nat) : (d <<< a).testBit i = (decide (a ≤ i) && d.testBit (i - a)) := Nat.testBit_shiftLeft ..
theorem up_lt {a b c : Nat} (h : c < 2 ^ a) : c < 2 ^ (a + b) := Nat.lt_of_lt_of_le h (Nat.pow_le_pow_right (by decide) (by omega))
theorem orp_lt {n a b : Nat} (ha : a < 2 ^ n) (hb : b < 2 ^ n) : a ||| b < 2 ^ n := Nat.or_lt_two_pow ha hb
theorem bset_cat {a c d : Nat} (hc : c < 2 ^ a) (hd : d <<< a < 2 ^ 8) : bset 8 (c ||| d <<< a) = bset 8 c ++ (bset 8 d).map (· + (a : Int)) := by
  refine sorted_ext (bset_sorted 8 _) ?_ fun x => ?_
  · rw [List.pairwise_append]
    refine ⟨bset_sorted 8 c, List.Pairwise.map _ (fun x y h => by omega) (bset_sorted 8 d), fun x hx y hy => ?_⟩
    obtain ⟨p, rfl, hp, hb⟩ := mem_bset.mp hx
    obtain ⟨z, hz, rfl⟩ := List.mem_map.mp hy
    obtain ⟨q, rfl, hq, hb'⟩ := mem_bset.mp hz
    by_cases h : a ≤ p
    · rw [bit_out hc h] at hb; cases hb
    · omega
  · rw [mem_bset, List.mem_append, mem_bset, List.mem_map]
    constructor
    · rintro ⟨p, rfl, hp, hb⟩
      rw [Nat.testBit_or, Bool.or_eq_true, shl_bit, Bool.and_eq_true, decide_eq_true_eq] at hb
      rcases hb with hb | ⟨h, hb⟩
      · exact .inl ⟨p, rfl, hp, hb⟩
      · exact .inr ⟨((p - a : Nat) : Int), mem_bset.mpr ⟨p - a, rfl, by omega, hb⟩, by omega⟩
    · rintro (⟨p, rfl, hp, hb⟩ | ⟨z, hz, rfl⟩)
      · exact ⟨p, rfl, hp, by rw [Nat.testBit_or, hb]; rfl⟩
      · obtain ⟨q, rfl, hq, hb⟩ := mem_bset.mp hz
        have hb2 : (d <<< a).testBit (q + a) = true := by rw [shl_bit, decide_eq_true (by omega), Nat.add_sub_cancel, hb]; rfl
        refine ⟨q + a, by omega, ?_, by rw [Nat.testBit_or, hb2, Bool.or_true]⟩
        by_cases h : q + a < 8
        · exact h
        · rw [bit_out hd (by omega)] at hb2; cases hb2
theorem bset_snoc {n c : Nat} (hc : c < 2 ^ n) (hn : n < 8) : bset 8 (c ||| 2 ^ n) = bset 8 c ++ [(n : Int)] := by
  have e : (1 : Nat) <<< n = 2 ^ n := by rw [Nat.shiftLeft_eq, Nat.one_mul]
  have := bset_cat (a := n) (c := c) (d := 1) hc (by rw [e]; exact Nat.pow_lt_pow_right (by decide) hn)
  rw [e] at this
  rw [this]
  have e2 : bset 8 1 = [0] := by decide +kernel
  rw [e2, List.map_singleton, Int.zero_add]
/-! ### by what they hold -/
def dou (n p : Nat) (cs : List Nat) : List Nat := cs ++ (cs.filter fun c => c.testBit p).map fun c => (c - (c &&& 2 ^ p)) ||| 2 ^ n
def spr (n p : Nat) (cs : List Nat) : List Nat := cs.map fun c => if c.testBit p = true then c ||| 2 ^ n else c
theorem or_sub {c d x : Nat} : (c ||| d) &&& x = (c ||| d) ↔ c &&& x = c ∧ d &&& x = d := by
  rw [sub_bits, sub_bits, sub_bits]
  constructor
  · intro h
    exact ⟨fun i hi => h i (by rw [Nat.testBit_or, hi]; rfl), fun i hi => h i (by rw [Nat.testBit_or, hi, Bool.or_true])⟩
  · rintro ⟨h1, h2⟩ i hi
    rw [Nat.testBit_or, Bool.or_eq_true] at hi
    exact hi.elim (h1 i) (h2 i)
def dx (n p x : Nat) : Nat := mk n fun i => x.testBit i || (decide (p = i) && x.testBit n)
def sx (n p x : Nat) : Nat := mk n fun i => x.testBit i && (!decide (p = i) || x.testBit n)
theorem hold_dou {n p x : Nat} {cs : List Nat} (hp : p < n) (hc : ∀ c ∈ cs, c < 2 ^ n) : hold (dou n p cs) x = hold cs (dx n p x) := by
  rw [Bool.eq_iff_iff, hold_iff, hold_iff]
  unfold dou
  have bd : ∀ c ∈ cs, ∀ i, c.testBit i = true → i < n := fun c h i hi => by
    by_cases g : i < n
    · exact g
    · rw [bit_out (hc c h) (by omega)] at hi; cases hi
  constructor
  · rintro ⟨z, h, e⟩
    rcases List.mem_append.mp h with h | h
    · refine ⟨z, h, sub_bits.mpr fun i hi => ?_⟩
      unfold dx
      rw [mk_bit, decide_eq_true (bd z h i hi), sub_bits.mp e i hi]; rfl
    · obtain ⟨c, h1, rfl⟩ := List.mem_map.mp h
      obtain ⟨h1, hb⟩ := List.mem_filter.mp h1
      obtain ⟨e1, e2⟩ := or_sub.mp e
      refine ⟨c, h1, sub_bits.mpr fun i hi => ?_⟩
      unfold dx
      rw [mk_bit, decide_eq_true (bd c h1 i hi), Bool.true_and]
      by_cases g : p = i
      · rw [decide_eq_true g, sub_bits.mp e2 n (by rw [Nat.testBit_two_pow_self]), Bool.true_and, Bool.or_true]
      · rw [sub_bits.mp e1 i (by rw [lessBit_bit, hi, decide_eq_false g]; rfl)]; rfl
  · rintro ⟨c, h, e⟩
    have e := sub_bits.mp e
    unfold dx at e
    by_cases g : c.testBit p = true ∧ x.testBit p = false
    · refine ⟨_, List.mem_append_right _ (List.mem_map.mpr ⟨c, List.mem_filter.mpr ⟨h, g.1⟩, rfl⟩), or_sub.mpr ⟨sub_bits.mpr fun i hi => ?_, sub_bits.mpr fun i hi => ?_⟩⟩
      · rw [lessBit_bit, Bool.and_eq_true, Bool.not_eq_true', decide_eq_false_iff_not] at hi
        have := e i hi.1
        rw [mk_bit, decide_eq_false hi.2, Bool.false_and, Bool.or_false, Bool.and_eq_true] at this
        exact this.2
      · rw [Nat.testBit_two_pow, decide_eq_true_eq] at hi
        subst hi
        have := e p g.1
        rw [mk_bit, g.2, decide_eq_true rfl, Bool.true_and, Bool.false_or, Bool.and_eq_true] at this
        exact this.2
    · refine ⟨c, List.mem_append_left _ h, sub_bits.mpr fun i hi => ?_⟩
      have := e i hi
      rw [mk_bit, Bool.and_eq_true, Bool.or_eq_true, Bool.and_eq_true, decide_eq_true_eq] at this
      rcases this.2 with h1 | ⟨h1, _⟩
      · exact h1
      · obtain rfl := of_decide_eq_true h1
        cases hx : x.testBit p with
        | true => rfl
        | false => exact absurd ⟨hi, hx⟩ g
theorem hold_spr {n p x : Nat} {cs : List Nat} (hp : p < n) (hc : ∀ c ∈ cs, c < 2 ^ n) : hold (spr n p cs) x = hold cs (sx n p x) := by
  rw [Bool.eq_iff_iff, hold_iff, hold_iff]
  unfold spr
  have bd : ∀ c ∈ cs, ∀ i, c.testBit i = true → i < n := fun c h i hi => by
    by_cases g : i < n
    · exact g
    · rw [bit_out (hc c h) (by omega)] at hi; cases hi
  have key : ∀ c ∈ cs, ((if c.testBit p = true then c ||| 2 ^ n else c) &&& x = (if c.testBit p = true then c ||| 2 ^ n else c)) ↔ c &&& sx n p x = c := by
    intro c h
    by_cases g : c.testBit p = true
    · rw [if_pos g, or_sub, sub_bits, sub_bits, sub_bits]
      constructor
      · rintro ⟨e1, e2⟩ i hi
        unfold sx
        rw [mk_bit, decide_eq_true (bd c h i hi), e1 i hi, e2 n (by rw [Nat.testBit_two_pow_self]), Bool.or_true]; rfl
      · intro e
        refine ⟨fun i hi => ?_, fun i hi => ?_⟩
        · have := e i hi
          unfold sx at this
          rw [mk_bit, Bool.and_eq_true, Bool.and_eq_true] at this
          exact this.2.1
        · rw [Nat.testBit_two_pow, decide_eq_true_eq] at hi
          subst hi
          have := e p g
          unfold sx at this
          rw [mk_bit, Bool.and_eq_true, Bool.and_eq_true, decide_eq_true rfl, Bool.not_true, Bool.false_or] at this
          exact this.2.2
    · rw [if_neg g, sub_bits, sub_bits]
      refine forall_congr' fun i => ?_
      unfold sx
      rw [mk_bit]
      refine ⟨fun e hi => ?_, fun e hi => ?_⟩
      · have hne : ¬ p = i := fun z => g (z ▸ hi)
        rw [decide_eq_true (bd c h i hi), e hi, decide_eq_false hne]; rfl
      · have := e hi
        rw [Bool.and_eq_true, Bool.and_eq_true] at this
        exact this.2.1
  constructor
  · rintro ⟨z, h, e⟩
    obtain ⟨c, h1, rfl⟩ := List.mem_map.mp h
    exact ⟨c, h1, (key c h1).mp e⟩
  · rintro ⟨c, h, e⟩
    exact ⟨_, List.mem_map.mpr ⟨c, h, rfl⟩, (key c h).mpr e⟩
theorem sx_lt (n p x : Nat) : sx n p x < 2 ^ n := mk_lt _ _
/-! ### where the codes lie -/
theorem dou_lt {n p : Nat} {cs : List Nat} (hc : ∀ c ∈ cs, c < 2 ^ n) : ∀ z ∈ dou n p cs, z < 2 ^ (n + 1) := fun z hz => by
  rcases List.mem_append.mp hz with h | h
  · exact up_lt (hc z h)
  · obtain ⟨c, h2, rfl⟩ := List.mem_map.mp h
    exact orp_lt (up_lt (lessBit_lt (hc c (List.mem_filter.mp h2).1))) (Nat.pow_lt_pow_right (by decide) (by omega))
theorem spr_lt {n p : Nat} {cs : List Nat} (hc : ∀ c ∈ cs, c < 2 ^ n) : ∀ z ∈ spr n p cs, z < 2 ^ (n + 1) := fun z hz => by
  obtain ⟨c, h, rfl⟩ := List.mem_map.mp hz
  by_cases g : c.testBit p = true
  · rw [if_pos g]; exact orp_lt (up_lt (hc c h)) (Nat.pow_lt_pow_right (by decide) (by omega))
  · rw [if_neg g]; exact up_lt (hc c h)
/-! ### the others -/
theorem dx_comp {n p x : Nat} (hp : p < n) : dx n p (comp (n + 1) x) = comp n (sx n p x) := Nat.eq_of_testBit_eq fun i => by
  unfold dx sx
  rw [mk_bit, comp_bit, comp_bit, comp_bit, mk_bit]
  by_cases h : i < n
  · rw [decide_eq_true h, decide_eq_true (show i < n + 1 by omega), decide_eq_true (show n < n + 1 by omega)]
    cases x.testBit i <;> cases x.testBit n <;> cases decide (p = i) <;> rfl
  · rw [decide_eq_false h]; rfl
/-! ### the least ones alone tell -/
theorem fam_dou {n p : Nat} {cs : List Nat} (hn : n + 1 ≤ 8) (hp : p < n) (hc : ∀ c ∈ cs, c < 2 ^ n) : fam (dou n p (fcs cs)) = fam (dou n p cs) := by
  have c1 := fcs_lt (by omega) hc
  exact fam_hold hn (dou_lt c1) (dou_lt hc) fun x hx => by rw [hold_dou hp c1, hold_dou hp hc, hold_fcs (lt256 (by omega) hc)]
theorem fam_spr {n p : Nat} {cs : List Nat} (hn : n + 1 ≤ 8) (hp : p < n) (hc : ∀ c ∈ cs, c < 2 ^ n) : fam (spr n p (fcs cs)) = fam (spr n p cs) := by
  have c1 := fcs_lt (by omega) hc
  exact fam_hold hn (spr_lt c1) (spr_lt hc) fun x hx => by rw [hold_spr hp c1, hold_spr hp hc, hold_fcs (lt256 (by omega) hc)]
/-! ### none within another one -/
theorem bit_lt {n c i : Nat} (hc : c < 2 ^ n) (h : c.testBit i = true) : i < n := by
  by_cases g : i < n
  · exact g
  · rw [bit_out hc (by omega)] at h; cases h
theorem less_up {n p c i : Nat} : ((c - (c &&& 2 ^ p)) ||| 2 ^ n).testBit i = ((c.testBit i && !decide (p = i)) || decide (n = i)) := by
  rw [Nat.testBit_or, lessBit_bit, Nat.testBit_two_pow]
theorem anti_dou {n p : Nat} {F : List Nat} (hp : p < n) (hF : ∀ c ∈ F, c < 2 ^ n) (A : Anti F) : Anti (dou n p F) := by
  have cc : ∀ c ∈ F, ∀ c' ∈ F, c.testBit p = true → c'.testBit p = true → ((c - (c &&& 2 ^ p)) ||| 2 ^ n) &&& ((c' - (c' &&& 2 ^ p)) ||| 2 ^ n) = (c - (c &&& 2 ^ p)) ||| 2 ^ n → c = c' := fun c h c' h' b b' e => by
    refine A.an c h c' h' (sub_bits.mpr fun i hi => ?_)
    by_cases g : p = i
    · rw [← g]; exact b'
    · have := sub_bits.mp e i (by rw [less_up, hi, decide_eq_false g]; rfl)
      rw [less_up, Bool.or_eq_true, Bool.and_eq_true, decide_eq_true_eq] at this
      rcases this with h1 | h1
      · exact h1.1
      · have := bit_lt (hF c h) hi; omega
  have oc : ∀ c ∈ F, ∀ c' ∈ F, c'.testBit p = true → ¬ (c &&& ((c' - (c' &&& 2 ^ p)) ||| 2 ^ n) = c) := fun c h c' h' b' e => by
    have s : ∀ i, c.testBit i = true → c'.testBit i = true ∧ ¬ p = i := fun i hi => by
      have := sub_bits.mp e i hi
      rw [less_up, Bool.or_eq_true, Bool.and_eq_true, decide_eq_true_eq, Bool.not_eq_true', decide_eq_false_iff_not] at this
      rcases this with h1 | h1
      · exact h1
      · have := bit_lt (hF c h) hi; omega
    have := A.an c h c' h' (sub_bits.mpr fun i hi => (s i hi).1)
    subst this
    exact (s p b').2 rfl
  have co : ∀ c ∈ F, ∀ c' ∈ F, ¬ (((c - (c &&& 2 ^ p)) ||| 2 ^ n) &&& c' = (c - (c &&& 2 ^ p)) ||| 2 ^ n) := fun c h c' h' e => by
    have := sub_bits.mp e n (by rw [less_up, decide_eq_true rfl, Bool.or_true])
    have := bit_lt (hF c' h') this; omega
  have self : ∀ x : Nat, x &&& x = x := Nat.and_self
  refine ⟨?_, ?_⟩
  · unfold dou List.Nodup
    rw [List.pairwise_append]
    refine ⟨A.nd, List.Pairwise.map _ ?_ (List.Pairwise.and_mem.mp (A.nd.sublist List.filter_sublist)), fun x hx y hy e => ?_⟩
    · rintro c c' ⟨h, h', hne⟩ e
      obtain ⟨h, b⟩ := List.mem_filter.mp h
      obtain ⟨h', b'⟩ := List.mem_filter.mp h'
      exact hne (cc c h c' h' b b' (by rw [← e, self]))
    · obtain ⟨c, h, rfl⟩ := List.mem_map.mp hy
      obtain ⟨h, b⟩ := List.mem_filter.mp h
      exact oc x hx c h b (by rw [← e, self])
  · intro x hx y hy e
    unfold dou at hx hy
    rcases List.mem_append.mp hx with hx | hx
    · rcases List.mem_append.mp hy with hy | hy
      · exact A.an x hx y hy e
      · obtain ⟨c, h, rfl⟩ := List.mem_map.mp hy
        obtain ⟨h, b⟩ := List.mem_filter.mp h
        exact absurd e (oc x hx c h b)
    · obtain ⟨c, h, rfl⟩ := List.mem_map.mp hx
      obtain ⟨h, b⟩ := List.mem_filter.mp h
      rcases List.mem_append.mp hy with hy | hy
      · exact absurd e (co c h y hy)
      · obtain ⟨c', h', rfl⟩ := List.mem_map.mp hy
        obtain ⟨h', b'⟩ := List.mem_filter.mp h'
        rw [cc c h c' h' b b' e]
theorem anti_spr {n p : Nat} {F : List Nat} (hp : p < n) (hF : ∀ c ∈ F, c < 2 ^ n) (A : Anti F) : Anti (spr n p F) := by
  have bit : ∀ c i : Nat, i < n → (if c.testBit p = true then c ||| 2 ^ n else c).testBit i = c.testBit i := fun c i hi => by
    by_cases g : c.testBit p = true
    · rw [if_pos g, Nat.testBit_or, Nat.testBit_two_pow, decide_eq_false (by omega), Bool.or_false]
    · rw [if_neg g]
  have key : ∀ c ∈ F, ∀ c' ∈ F, (if c.testBit p = true then c ||| 2 ^ n else c) &&& (if c'.testBit p = true then c' ||| 2 ^ n else c') = (if c.testBit p = true then c ||| 2 ^ n else c) → c = c' := fun c h c' h' e => by
    refine A.an c h c' h' (sub_bits.mpr fun i hi => ?_)
    have hi' := bit_lt (hF c h) hi
    have := sub_bits.mp e i (by rw [bit c i hi']; exact hi)
    rw [bit c' i hi'] at this
    exact this
  refine ⟨?_, ?_⟩
  · unfold spr List.Nodup
    refine List.Pairwise.map _ ?_ (List.Pairwise.and_mem.mp A.nd)
    rintro c c' ⟨h, h', hne⟩ e
    exact hne (key c h c' h' (by rw [← e, Nat.and_self]))
  · intro x hx y hy e
    obtain ⟨c, h, rfl⟩ := List.mem_map.mp hx
    obtain ⟨c', h', rfl⟩ := List.mem_map.mp hy
    rw [key c h c' h' e]
theorem fcs_pow {n : Nat} {cs : List Nat} (hn : n ≤ 8) (hc : ∀ c ∈ cs, c < 2 ^ n) : (fcs cs).length ≤ 2 ^ n := by
  have A := anti_of_fcs (lt256 hn hc)
  have := nodup_le A.nd (ys := List.range (2 ^ n)) fun c h => List.mem_range.mpr (fcs_lt hn hc c h)
  rwa [List.length_range] at this
end M

/-! beside, crossed, doubled, spread, read. -/
namespace M
open PySem L2
variable [Tabs]
def N27_bounded : List Str := ["a"]
def N27_doubled : List Str := ["a", "b", "c", "d", "e", "f", "g"]
theorem in_pl {p c : Nat} (hp : p < 8) {S : Sto} {Q : Bool → Sto → Prop} (q : Q (c.testBit p) S) : bIn false (.int (p : Nat)) (sv c) S fun x S1 => ∃ k, x = .bl k ∧ Q k S1 :=
  ⟨_, rfl, rfl, iv_flat (bset 8 c), _, rfl, by rw [if_neg (by decide), in_sv hp]; exact q⟩
def N27_spread : List Str := ["a", "b", "c", "d", "e", "f"]
def sprP (n p : Nat) : PV → PV
  | .tup xs => if decide (((p : Nat) : Int) ∈ unT (.tup xs)) = true then .tup (xs ++ [.int (n : Nat)]) else .tup xs
  | x => x
theorem sprP_sv {n p c : Nat} (hp : p < n) (hn : n < 8) (hc : c < 2 ^ n) : sprP n p (sv c) = tv (bset 8 (if c.testBit p = true then c ||| 2 ^ n else c)) := by
  have e : decide (((p : Nat) : Int) ∈ unT (sv c)) = c.testBit p := by
    unfold sv
    rw [un_tv, Bool.eq_iff_iff, decide_eq_true_eq, mem_bset']
    exact ⟨fun h => h.2, fun h => ⟨by omega, h⟩⟩
  show (if decide (((p : Nat) : Int) ∈ unT (sv c)) = true then PV.tup ((bset 8 c).map PV.int ++ [.int (n : Nat)]) else sv c) = _
  rw [e]
  by_cases g : c.testBit p = true
  · rw [if_pos g, if_pos g, bset_snoc hc hn]
    unfold tv
    rw [List.map_append]; rfl
  · rw [if_neg g, if_neg g]; rfl
end M

/-! How the laws of the third stage draw. -/
namespace M
open PySem L2
variable [Tabs]
end M

/-! The least ones of SETs, as the laws of the third stage tell them. -/
namespace M
open PySem L2
variable [Tabs]
end M

/-! How the laws of the third stage make families. -/
namespace M
open PySem L2
variable [Tabs]
end M

/-! does_part, and what the laws of the third stage ask beside it. -/
namespace M
open PySem L2
variable [Tabs]
/-! ### does_part -/
/-! ### _law_n -/
end M

/-! What meets all members, told for every code; the members' codes of two families. -/
namespace M
open PySem L2
variable [Tabs]
/-! ### _law_met -/
end M

/-! The other family, as the laws of the third stage tell it. -/
namespace M
open PySem L2
variable [Tabs]
def fewer (F : List Nat) (c : Nat) : List Int := (bset 8 c).filter fun p => meet F (c - 2 ^ p.toNat)
def gd (F : List Nat) (c : Nat) : Bool := meet F c && (fewer F c).isEmpty
end M

/-! Greater families, families near one another, the codes of two families' members. -/
namespace M
open PySem L2
variable [Tabs]
/-! ### _law_codes -/
/-! ### _law_great -/
end M

/-! A family near another one. -/
namespace M
open PySem L2
variable [Tabs]
end M

/-! Two families that are each other's, by what they hold; a list of picks of the reel. -/
namespace M
open PySem L2
variable [Tabs]
/-- each other's -/
structure Du (n : Nat) (cs ds : List Nat) : Prop where
  c : ∀ c ∈ cs, c < 2 ^ n
  d : ∀ d ∈ ds, d < 2 ^ n
  h : ∀ x, x < 2 ^ n → hold ds x = !hold cs (comp n x)
theorem Du.symm {n : Nat} {cs ds : List Nat} (D : Du n cs ds) : Du n ds cs := ⟨D.d, D.c, fun x hx => by
  rw [D.h _ (comp_lt hx), comp_comp, Bool.not_not]⟩
theorem Du.fam {n : Nat} {cs ds : List Nat} (hn : n ≤ 8) (D : Du n cs ds) : fam ds = fam (mts n (fcs cs)) :=
  fam_hold hn D.d mts_lt fun x hx => by rw [D.h x hx, hold_mts hn D.c hx]
theorem Du.of {n : Nat} {cs : List Nat} (hn : n ≤ 8) (hc : ∀ c ∈ cs, c < 2 ^ n) : Du n cs (mts n (fcs cs)) := ⟨hc, mts_lt, fun x hx => hold_mts hn hc hx⟩
theorem Du.fcs {n : Nat} {cs ds : List Nat} (hn : n ≤ 8) (D : Du n cs ds) : Du n (fcs cs) (fcs ds) :=
  ⟨fcs_lt hn D.c, fcs_lt hn D.d, fun x hx => by rw [hold_fcs (lt256 hn D.d), hold_fcs (lt256 hn D.c), D.h x hx]⟩
theorem Du.dou {n p : Nat} {cs ds : List Nat} (D : Du n cs ds) (hp : p < n) : Du (n + 1) (dou n p cs) (spr n p ds) :=
  ⟨dou_lt D.c, spr_lt D.d, fun x hx => by rw [hold_spr hp D.d, hold_dou hp D.c, dx_comp hp, D.h _ (sx_lt n p x)]⟩
end M

/-! beside, crossed, doubled, spread where there may be too many places: then they raise. -/
namespace M
open PySem L2
variable [Tabs]
/-- too many places -/
abbrev tooM (E : XPs) (S : Sto) : Prop := E "TooMany" [("word", .str (Str.ofString "places"))] S
def w38_bounded (xq : XP) : WS :=
    (wSeq (wIfS (wB (wOp bGt (wVar 0) (wC (.int 8)))) (wRaise xq "TooMany" ["word"] (wCons (wC (.str (Str.ofString "places"))) wNil)) wNext)
    (wRet (wVar 0)))
def sp38_bounded : PSpX := fun vs S Q E => ∃ n : Int, vs = [.int n] ∧ ((n ≤ 8 ∧ Q (.int n) S) ∨ (8 < n ∧ tooM E S))
theorem len38_bounded : ∀ vs S Q E, sp38_bounded vs S Q E → vs.length = 1 := by rintro _ S Q E ⟨n, rfl, _⟩; rfl
theorem rd38_bounded : ∀ vs S Q E, sp38_bounded vs S Q E → w38_bounded (fun c fs _ S' => E c fs S') { nx := fun _ S' => Q .non S', rt := Q } (startP N27_bounded vs) S := by
  rintro _ S Q E ⟨n, rfl, h⟩
  refine sifn ⟨_, rfl, _, rfl, ?_⟩
  rcases h with ⟨hn, q⟩ | ⟨hn, q⟩
  · rw [decide_eq_false (show ¬ (8 : Int) < n by omega)]
    exact iteF ⟨_, rfl, q⟩
  · rw [decide_eq_true (show (8 : Int) < n by omega)]
    exact iteT ⟨rfl, q⟩
def w38_doubled (sp_places_bounded : PSpX) (sp_taken_from : PSp) (xq : XP) : WS :=
    (wSeq (wAsg (wVar 0) (pGTup 2 (pGCons (pName 4) (pGCons (pName 5) pGNil))))
    (wSeq (wAsg (wCallX sp_places_bounded xq (wCons (wOp bAdd (wVar 4) (wC (.int 1))) wNil)) (pName 2))
    (wSeq (wAsg (wLc 6 (wISeq (wVar 5)) (wB (wOp (bIn false) (wVar 1) (wVar 6))) (wOp bAdd (wCall sp_taken_from (wCons (wVar 6) (wCons (wTup (wCons (wVar 1) wNil)) wNil))) (wTup (wCons (wVar 4) wNil)))) (pName 3))
    (wRet (wTup (wCons (wVar 2) (wCons (wCall pTuple (wCons (wCall pSort (wCons (wLst (wStar (wVar 5) (wStar (wVar 3) wNil))) wNil)) wNil)) wNil)))))))
def sp38_doubled : PSpX := fun vs S Q E => ∃ (n p : Nat) (cs : List Nat), vs = [fv (.int (n : Nat)) cs, .int (p : Nat)] ∧ p < n ∧ n ≤ 8 ∧ (∀ c ∈ cs, c < 2 ^ n) ∧ (n + 1 ≤ 8 → ∀ S', Ext S S' → Q (fv (.int ((n + 1 : Nat) : Nat)) (dou n p cs)) S') ∧ (¬ n + 1 ≤ 8 → tooM E S)
theorem len38_doubled : ∀ vs S Q E, sp38_doubled vs S Q E → vs.length = 2 := by rintro _ S Q E ⟨a, b, cs, rfl, _⟩; rfl
theorem rd38_doubled : ∀ vs S Q E, sp38_doubled vs S Q E → w38_doubled sp38_bounded sp1_taken (fun c fs _ S' => E c fs S') { nx := fun _ S' => Q .non S', rt := Q } (startP N27_doubled vs) S := by
  rintro _ S Q E ⟨n, p, cs, rfl, hp, n8, hc, qq, qx⟩
  have p8 : p < 8 := by omega
  have c1 := lt256 n8 hc
  have lc := fcs_pow n8 hc
  have lc2 := p256 n8
  have fc := fcs_lt n8 hc
  have em := fam_sv c1
  refine ⟨_, rfl, _, rfl, rfl, _, _, rfl, _, _, rfl, rfl, ?_⟩
  dsimp only
  by_cases hn : n + 1 ≤ 8
  case neg => exact sa ⟨_, rfl, _, rfl, .inr ⟨by omega, qx hn⟩⟩
  have q := qq hn
  refine sa ⟨_, rfl, _, rfl, .inl ⟨by omega, ?_⟩⟩
  refine sa ⟨_, rfl, ?_⟩
  show runLc _ 6 _ _ ((fam cs).map tv) _ _ _ _
  rw [em]
  refine runLc_ext (f := fun x => .tup (((taken (unT x) [((p : Nat) : Int)]).map PV.int) ++ [.int (n : Nat)])) (g := fun x => match x with | .tup _ => decide (((p : Nat) : Int) ∈ unT x) | _ => false) _ _ _ (fun _ _ => trivial) (fun x hx S2 x2 Q' q' => ?_) (fun x hx hg S2 x2 Q' q' => ?_) (by rw [List.length_map]; show 0 + _ < _; omega) fun S2 x2 => ?_
  · obtain ⟨c, hc', rfl⟩ := List.mem_map.mp hx
    have e : decide (((p : Nat) : Int) ∈ unT (sv c)) = c.testBit p := by
      unfold sv
      rw [un_tv, Bool.eq_iff_iff, decide_eq_true_eq, mem_bset']
      exact ⟨fun h => h.2, fun h => ⟨p8, h⟩⟩
    have q' : Q' (decide (((p : Nat) : Int) ∈ unT (sv c))) S2 := q' S2 (.refl _)
    rw [e] at q'
    exact ⟨_, rfl, _, rfl, in_pl p8 q'⟩
  · obtain ⟨c, hc', rfl⟩ := List.mem_map.mp hx
    refine ⟨_, rfl, _, rfl, sz (by decide : 1 ≤ 1000), bset 8 c, [((p : Nat) : Int)], rfl, ?_, fun X => ?_⟩
    · have := bset_length 8 c; omega
    · have q' := q' (S2 ++ X) (Ext.app _ _)
      have q' : Q' (.tup (((taken (unT (tv (bset 8 c))) [((p : Nat) : Int)]).map PV.int) ++ [.int (n : Nat)])) (S2 ++ X) := q'
      rw [un_tv] at q'
      refine ⟨_, rfl, sz (by decide : 1 ≤ 1000), sz ?_, q'⟩
      rw [List.length_map, List.length_singleton]
      have h1 := taken_length (bset 8 c) [((p : Nat) : Int)]
      have h2 := bset_length 8 c
      omega
  · rw [List.nil_append]
    have e : (((fcs cs).map sv).filter fun x => match x with | .tup _ => decide (((p : Nat) : Int) ∈ unT x) | _ => false).map (fun x => .tup (((taken (unT x) [((p : Nat) : Int)]).map PV.int) ++ [.int (n : Nat)])) = ((((fcs cs).filter fun c => c.testBit p).map fun c => (c - (c &&& 2 ^ p)) ||| 2 ^ n).map (bset 8)).map tv := by
      rw [List.filter_map, List.map_map, List.map_map, List.map_map]
      have e1 : ((fun x => match x with | .tup _ => decide (((p : Nat) : Int) ∈ unT x) | _ => false) ∘ sv) = fun c : Nat => c.testBit p := funext fun c => by
        show decide (((p : Nat) : Int) ∈ unT (tv (bset 8 c))) = _
        rw [un_tv, Bool.eq_iff_iff, decide_eq_true_eq, mem_bset']
        exact ⟨fun h => h.2, fun h => ⟨p8, h⟩⟩
      rw [e1]
      refine List.map_congr_left fun c h => ?_
      have h := fc c (List.mem_filter.mp h).1
      show PV.tup (((taken (unT (tv (bset 8 c))) [((p : Nat) : Int)]).map PV.int) ++ [.int (n : Nat)]) = tv (bset 8 _)
      rw [un_tv, taken_bit p8, bset_snoc (lessBit_lt h) (by omega)]
      unfold tv
      rw [List.map_append]; rfl
    rw [e]
    generalize hg : (((fcs cs).filter fun c => c.testBit p).map fun c => (c - (c &&& 2 ^ p)) ||| 2 ^ n) = cp
    have lcp : cp.length ≤ 256 := by
      rw [← hg, List.length_map]
      exact Nat.le_trans (List.length_filter_le _ _) (by omega)
    refine ⟨_, rfl, _, rfl, _, rfl, _, rfl, _, sl_end _ _, ?_⟩
    dsimp only [wNil]
    have ed : (fcs cs).map sv ++ ((cp.map (bset 8)).map tv ++ []) = ((dou n p (fcs cs)).map (bset 8)).map tv := by
      unfold dou
      rw [hg, List.append_nil, List.map_append, List.map_append, List.map_map (l := fcs cs)]; rfl
    refine ⟨?_, ?_⟩
    · rw [ed, List.length_map, List.length_map]
      unfold dou
      rw [hg, List.length_append]
      exact sz (by omega)
    rw [ed]
    refine .inr ⟨_, sl_end _ _, fun rows' h1 h2 => ?_⟩
    have A := anti_dou hp fc (anti_of_fcs c1)
    obtain rfl := anti_rows A (lt256 hn (dou_lt fc)) h1 h2
    refine ⟨_, sl_end _ _, sz (by decide : 2 ≤ 1000), ?_⟩
    have := q _ (x2.trans (((Ext.app _ [MO.lst ((cp.map (bset 8)).map tv)]).trans (Ext.app _ [MO.lst (((dou n p (fcs cs)).map (bset 8)).map tv)])).trans (Ext.app _ [MO.lst ((fam (dou n p (fcs cs))).map tv)])))
    rw [← fv_congr (fam_dou hn hp hc)] at this
    exact this
def w38_spread (sp_places_bounded : PSpX) (xq : XP) : WS :=
    (wSeq (wAsg (wVar 0) (pGTup 2 (pGCons (pName 3) (pGCons (pName 4) pGNil))))
    (wSeq (wAsg (wCallX sp_places_bounded xq (wCons (wOp bAdd (wVar 3) (wC (.int 1))) wNil)) (pName 2))
    (wRet (wTup (wCons (wVar 2) (wCons (wCall pTuple (wCons (wCall pSort (wCons (wLc 5 (wISeq (wVar 4)) wYes (wIf (wB (wOp (bIn false) (wVar 1) (wVar 5))) (wOp bAdd (wVar 5) (wTup (wCons (wVar 3) wNil))) (wVar 5))) wNil)) wNil)) wNil))))))
def sp38_spread : PSpX := fun vs S Q E => ∃ (n p : Nat) (cs : List Nat), vs = [fv (.int (n : Nat)) cs, .int (p : Nat)] ∧ p < n ∧ n ≤ 8 ∧ (∀ c ∈ cs, c < 2 ^ n) ∧ (n + 1 ≤ 8 → ∀ S', Ext S S' → Q (fv (.int ((n + 1 : Nat) : Nat)) (spr n p cs)) S') ∧ (¬ n + 1 ≤ 8 → tooM E S)
theorem len38_spread : ∀ vs S Q E, sp38_spread vs S Q E → vs.length = 2 := by rintro _ S Q E ⟨a, b, cs, rfl, _⟩; rfl
theorem rd38_spread : ∀ vs S Q E, sp38_spread vs S Q E → w38_spread sp38_bounded (fun c fs _ S' => E c fs S') { nx := fun _ S' => Q .non S', rt := Q } (startP N27_spread vs) S := by
  rintro _ S Q E ⟨n, p, cs, rfl, hp, n8, hc, qq, qx⟩
  have p8 : p < 8 := by omega
  have c1 := lt256 n8 hc
  have lc := fcs_pow n8 hc
  have lc2 := p256 n8
  have fc := fcs_lt n8 hc
  have em := fam_sv c1
  refine ⟨_, rfl, _, rfl, rfl, _, _, rfl, _, _, rfl, rfl, ?_⟩
  dsimp only
  by_cases hn : n + 1 ≤ 8
  case neg => exact sa ⟨_, rfl, _, rfl, .inr ⟨by omega, qx hn⟩⟩
  have q := qq hn
  refine sa ⟨_, rfl, _, rfl, .inl ⟨by omega, ?_⟩⟩
  refine ⟨_, rfl, _, rfl, ?_⟩
  show runLc _ 5 _ _ ((fam cs).map tv) _ _ _ _
  rw [em]
  refine runLc_map (f := sprP n p) trivial _ (fun x hx Q' q' => ?_) (by rw [List.length_map]; omega) ?_
  · obtain ⟨c, hc', rfl⟩ := List.mem_map.mp hx
    rw [sprP_sv hp (by omega) (fc c hc')] at q'
    refine ⟨_, rfl, _, rfl, in_pl (c := c) (Q := fun k S1 => if k = true then _ else _) p8 ?_⟩
    by_cases g : c.testBit p = true
    · rw [if_pos g, bset_snoc (fc c hc') (by omega)] at q'
      rw [g]
      refine iteT ⟨_, rfl, _, rfl, sz (by decide : 1 ≤ 1000), sz ?_, ?_⟩
      · have := bset_length 8 c
        rw [List.length_map, List.length_singleton]; omega
      · unfold tv at q'
        rw [List.map_append] at q'
        exact q'
    · rw [if_neg g] at q'
      rw [Bool.eq_false_iff.mpr g]
      exact iteF ⟨_, rfl, q'⟩
  · have e : ((fcs cs).map sv).map (sprP n p) = ((spr n p (fcs cs)).map (bset 8)).map tv := by
      unfold spr
      rw [List.map_map, List.map_map, List.map_map]
      exact List.map_congr_left fun c h => sprP_sv hp (by omega) (fc c h)
    rw [e]
    refine .inr ⟨_, sl_end _ _, fun rows' h1 h2 => ?_⟩
    have A := anti_spr hp fc (anti_of_fcs c1)
    obtain rfl := anti_rows A (lt256 hn (spr_lt fc)) h1 h2
    refine ⟨_, sl_end _ _, sz (by decide : 2 ≤ 1000), ?_⟩
    have := q _ ((Ext.app S [MO.lst (((spr n p (fcs cs)).map (bset 8)).map tv)]).trans (Ext.app _ [MO.lst ((fam (spr n p (fcs cs))).map tv)]))
    rw [← fv_congr (fam_spr hn hp hc)] at this
    exact this
/-! ### what is made of it where it is caught -/
def w38_hnd : WS := (wSeq (wAsg (wTup (wCons (wC (.str (Str.ofString "odd"))) wNil)) (pName 3))
    (wSeq (wAsg (wNotV (wIsX (Is [("NoPaper", true), ("NoText", true), ("NoSteps", true), ("TooMany", false), ("NoRow", true)]) (wVar 4))) (pName 5))
    (wIfS (wAndT (wTru (wIsX (Is [("NoPaper", false), ("NoText", false), ("NoSteps", false), ("TooMany", true), ("NoRow", false)]) (wVar 4))) (wAndT (wTru (wIsX (Is [("NoPaper", true), ("NoText", true), ("NoSteps", true), ("TooMany", true), ("NoRow", true)]) (wVar 4))) (wTru (wVar 5)))) (wAsg (wTup (wCons (wC (.str (Str.ofString "many"))) (wCons (wXGet (Of ["NoPaper", "NoText", "NoSteps", "TooMany"]) "word" (wVar 4)) wNil))) (pName 3)) wNext)))
theorem hnd_many {D : PD} {v0 v1 v2 v3 v5 : Option PV} {n : Nat} {S : Sto} {w : PV} (hn : S[n]? = some (.exc "TooMany" [("word", w)])) (q : D.nx [v0, v1, v2, some (.tup [.str (Str.ofString "many"), w]), some (.ref n), some (.bl true)] S) :
    w38_hnd D [v0, v1, v2, v3, some (.ref n), v5] S := by
  refine sa ⟨sz (by decide : 1 ≤ 1000), ?_⟩
  refine sa ⟨_, rfl, n, _, _, _, rfl, hn, rfl, _, rfl, ?_⟩
  refine ⟨_, rfl, n, _, _, _, rfl, hn, rfl, _, rfl, iteT ?_⟩
  refine ⟨_, rfl, n, _, _, _, rfl, hn, rfl, _, rfl, iteT ?_⟩
  refine ⟨_, rfl, _, rfl, iteT ?_⟩
  exact ⟨_, rfl, n, _, _, _, rfl, hn, by simp, rfl, sz (by decide : 2 ≤ 1000), q⟩
theorem sm_str (s : Str) (h : (PyData.str s).showable = true) (h2 : up (.str s) ≤ 60) (D : Nat) : SmD 60 D (.str s) := ⟨h, Nat.zero_le _, h2⟩
/-- two words; a word and a family -/
theorem sm_many : SmD 200 7 (.tuple [.str (Str.ofString "many"), .str (Str.ofString "places")]) :=
  (SmD.tuple (.cons (sm_str _ rfl (by decide +kernel) 3) (.cons (sm_str _ rfl (by decide +kernel) 3) (SmDs.nil.mono (Nat.le_refl 0) (by decide))))).mono (by decide) (by decide)
theorem sm_told {n : Nat} {cs : List Nat} (hn : n ≤ 9) (hl : cs.length ≤ 310) : SmD 200100 9 (.tuple [.str (Str.ofString "told"), fd n cs]) :=
  (SmD.tuple (.cons (sm_str _ rfl (by decide +kernel) 7) (.cons (sm_fam n cs hn hl) (SmDs.nil.mono (Nat.le_refl 0) (by decide))))).mono (by decide) (by decide)
end M

namespace k23
open PySem L2 M
variable [Tabs]
def sp_taken_from : PSp := sp1_taken
def sp_places_bounded : PSpX := sp38_bounded
def sp_doubled : PSpX := sp38_doubled
def sp_spread : PSpX := sp38_spread
def sp_l_tape : PSp := sp14_tape
def sp_l_draw : PSp := sp14_draw
def sp_l_n : PSp := sp15_n
def sp_l_set : PSp := sp15_set
def sp_l_size : PSp := sp15_size
def sp_l_least : PSp := sp15_least
def sp_l_family : PSp := sp15_family
def sp_l_members : PSp := sp15_members
theorem len_taken_from : ∀ vs S Q, sp_taken_from vs S Q → vs.length = 2 := len1_taken
theorem rd_taken_from : ∀ vs S Q, sp_taken_from vs S Q → w_taken_from { nx := fun _ S' => Q .non S', rt := Q } (startP N_taken_from vs) S := rd1_taken
theorem len_places_bounded : ∀ vs S Q E, sp_places_bounded vs S Q E → vs.length = 1 := len38_bounded
theorem rd_places_bounded : ∀ vs S Q E, sp_places_bounded vs S Q E → w_places_bounded (fun c fs _ S' => E c fs S') { nx := fun _ S' => Q .non S', rt := Q } (startP N_places_bounded vs) S := rd38_bounded
theorem len_doubled : ∀ vs S Q E, sp_doubled vs S Q E → vs.length = 2 := len38_doubled
theorem rd_doubled : ∀ vs S Q E, sp_doubled vs S Q E → w_doubled sp_places_bounded sp_taken_from (fun c fs _ S' => E c fs S') { nx := fun _ S' => Q .non S', rt := Q } (startP N_doubled vs) S := rd38_doubled
theorem len_spread : ∀ vs S Q E, sp_spread vs S Q E → vs.length = 2 := len38_spread
theorem rd_spread : ∀ vs S Q E, sp_spread vs S Q E → w_spread sp_places_bounded (fun c fs _ S' => E c fs S') { nx := fun _ S' => Q .non S', rt := Q } (startP N_spread vs) S := rd38_spread
theorem len_l_tape : ∀ vs S Q, sp_l_tape vs S Q → vs.length = 1 := len14_tape
theorem rd_l_tape : ∀ vs S Q, sp_l_tape vs S Q → w_l_tape { nx := fun _ S' => Q .non S', rt := Q } (startP N_l_tape vs) S := rd14_tape
theorem len_l_draw : ∀ vs S Q, sp_l_draw vs S Q → vs.length = 2 := len14_draw
theorem rd_l_draw : ∀ vs S Q, sp_l_draw vs S Q → w_l_draw { nx := fun _ S' => Q .non S', rt := Q } (startP N_l_draw vs) S := rd14_draw
theorem len_l_n : ∀ vs S Q, sp_l_n vs S Q → vs.length = 2 := len15_n
theorem rd_l_n : ∀ vs S Q, sp_l_n vs S Q → w_l_n sp_l_draw { nx := fun _ S' => Q .non S', rt := Q } (startP N_l_n vs) S := rd15_n
theorem len_l_set : ∀ vs S Q, sp_l_set vs S Q → vs.length = 2 := len15_set
theorem rd_l_set : ∀ vs S Q, sp_l_set vs S Q → w_l_set { nx := fun _ S' => Q .non S', rt := Q } (startP N_l_set vs) S := rd15_set
theorem len_l_size : ∀ vs S Q, sp_l_size vs S Q → vs.length = 1 := len15_size
theorem rd_l_size : ∀ vs S Q, sp_l_size vs S Q → w_l_size { nx := fun _ S' => Q .non S', rt := Q } (startP N_l_size vs) S := rd15_size
theorem len_l_least : ∀ vs S Q, sp_l_least vs S Q → vs.length = 1 := len15_least
theorem rd_l_least : ∀ vs S Q, sp_l_least vs S Q → w_l_least { nx := fun _ S' => Q .non S', rt := Q } (startP N_l_least vs) S := rd15_least
theorem len_l_family : ∀ vs S Q, sp_l_family vs S Q → vs.length = 2 := len15_family
theorem rd_l_family : ∀ vs S Q, sp_l_family vs S Q → w_l_family sp_l_set { nx := fun _ S' => Q .non S', rt := Q } (startP N_l_family vs) S := rd15_family
theorem len_l_members : ∀ vs S Q, sp_l_members vs S Q → vs.length = 2 := len15_members
theorem rd_l_members : ∀ vs S Q, sp_l_members vs S Q → w_l_members sp_l_draw sp_l_size sp_l_least { nx := fun _ S' => Q .non S', rt := Q } (startP N_l_members vs) S := rd15_members
end k23

namespace k23
open PySem L2 M
variable [Tabs]
/-- what is told of a family with a place doubled, spread -/
def tld (k : Bool) (n p : Nat) (cs : List Nat) : PV := if n + 1 ≤ 8 then .tup [.str (Str.ofString "told"), fv (.int ((n + 1 : Nat) : Nat)) (if k = true then dou n p cs else spr n p cs)] else .tup [.str (Str.ofString "many"), .str (Str.ofString "places")]
theorem tld_yes {k : Bool} {n p : Nat} {cs : List Nat} (h : n + 1 ≤ 8) : tld k n p cs = .tup [.str (Str.ofString "told"), fv (.int ((n + 1 : Nat) : Nat)) (if k = true then dou n p cs else spr n p cs)] := if_pos h
theorem tld_no {k : Bool} {n p : Nat} {cs : List Nat} (h : ¬ n + 1 ≤ 8) : tld k n p cs = .tup [.str (Str.ofString "many"), .str (Str.ofString "places")] := if_neg h
def sp_l_told : PSp := fun vs S Q => ∃ (k : Bool) (n p : Nat) (cs : List Nat), vs = [.bl k, fv (.int (n : Nat)) cs, .int (p : Nat)] ∧ p < n ∧ n ≤ 8 ∧ (∀ c ∈ cs, c < 2 ^ n) ∧ ∀ S', Ext S S' → Q (tld k n p cs) S'
theorem len_l_told : ∀ vs S Q, sp_l_told vs S Q → vs.length = 3 := by rintro _ S Q ⟨k, n, p, cs, rfl, _⟩; rfl
theorem rd_l_told : ∀ vs S Q, sp_l_told vs S Q → w_l_told sp_doubled sp_spread { nx := fun _ S' => Q .non S', rt := Q } (startP N_l_told vs) S := by
  rintro _ S Q ⟨k, n, p, cs, rfl, hp, hn8, hc, q⟩
  refine sa ⟨.bl k, rfl, k, rfl, ?_⟩
  cases k with
  | true =>
    refine iteT ⟨_, rfl, _, rfl, n, p, cs, rfl, hp, hn8, hc, fun hn S' x' => ⟨sz (by decide : 2 ≤ 1000), _, rfl, ?_⟩, fun hn => ⟨by simp [Of], hnd_many (get_end S _) ⟨_, rfl, ?_⟩⟩⟩
    · have := q S' x'; rwa [tld_yes hn] at this
    · have := q _ (Ext.app S [MO.exc "TooMany" [("word", .str (Str.ofString "places"))]]); rwa [tld_no hn] at this
  | false =>
    refine iteF ⟨_, rfl, _, rfl, n, p, cs, rfl, hp, hn8, hc, fun hn S' x' => ⟨sz (by decide : 2 ≤ 1000), _, rfl, ?_⟩, fun hn => ⟨by simp [Of], hnd_many (get_end S _) ⟨_, rfl, ?_⟩⟩⟩
    · have := q S' x'; rwa [tld_yes hn] at this
    · have := q _ (Ext.app S [MO.exc "TooMany" [("word", .str (Str.ofString "places"))]]); rwa [tld_no hn] at this
theorem anti_pow {n : Nat} {cs : List Nat} (A : Anti cs) (hc : ∀ c ∈ cs, c < 2 ^ n) : cs.length ≤ 2 ^ n := by
  have := nodup_le A.nd (ys := List.range (2 ^ n)) fun c h => List.mem_range.mpr (hc c h)
  rwa [List.length_range] at this
theorem or_add {n c : Nat} (h : c < 2 ^ n) : c ||| 2 ^ n = c + 2 ^ n := by
  have := Nat.two_pow_add_eq_or_of_lt h 1
  rw [Nat.mul_one] at this
  rw [Nat.or_comm, ← this, Nat.add_comm]
theorem and_bit (c p : Nat) : c &&& 2 ^ p = if c.testBit p = true then 2 ^ p else 0 := by
  apply Nat.eq_of_testBit_eq
  intro i
  rw [Nat.testBit_and, Nat.testBit_two_pow]
  by_cases e : p = i
  · subst e
    cases hb : c.testBit p with
    | false => simp
    | true => simp
  · cases hb : c.testBit p with
    | false => simp [e]
    | true => simp [e]
theorem bit_le {c p : Nat} (h : c.testBit p = true) : 2 ^ p ≤ c := Nat.ge_two_pow_of_testBit h
theorem in_cv (c : Nat) : ∀ ds : List Nat, inP (.int (c : Nat)) (cv ds) = decide (c ∈ ds)
  | [] => rfl
  | d :: ds => by
    show (eqP (.int (d : Nat)) (.int (c : Nat)) || inP (.int (c : Nat)) (cv ds)) = _
    rw [in_cv c ds]
    show (decide ((d : Int) = (c : Int)) || decide (c ∈ ds)) = _
    rw [Bool.eq_iff_iff]
    simp only [Bool.or_eq_true, decide_eq_true_eq, List.mem_cons]
    constructor
    · rintro (h | h)
      · exact .inl (by omega)
      · exact .inr h
    · rintro (h | h)
      · exact .inl (by omega)
      · exact .inr h
theorem mul_one_ok {a : Nat} (h : a ≤ 128) : CMul (a : Int) 1 := by unfold CMul; omega
theorem mul_zero_ok {a : Nat} (h : a ≤ 128) : CMul (a : Int) 0 := by unfold CMul; omega
def sp_l_due : PSp := fun vs S Q => ∃ (k : Bool) (n p r : Nat) (cs : List Nat), vs = [.bl k, .int (n : Nat), .ref r, .int (p : Nat)] ∧ S[r]? = some (.lst (cv cs)) ∧ Anti cs ∧ p < n ∧ n ≤ 8 ∧ (∀ c ∈ cs, c < 2 ^ n) ∧ ∀ S', Ext S S' → Q (tld k n p cs) S'
theorem len_l_due : ∀ vs S Q, sp_l_due vs S Q → vs.length = 4 := by rintro _ S Q ⟨k, n, p, r, cs, rfl, _⟩; rfl
theorem rd_l_due : ∀ vs S Q, sp_l_due vs S Q → w_l_due sp_l_family { nx := fun _ S' => Q .non S', rt := Q } (startP N_l_due vs) S := by
  rintro _ S Q ⟨k, n, p, r, cs, rfl, gr, A, hp, n8, hc, q⟩
  refine sret ⟨_, rfl, _, rfl, ?_⟩
  by_cases hn : n + 1 ≤ 8
  case neg =>
    rw [decide_eq_true (show (n : Int) = 8 by omega)]
    refine iteT ⟨sz (by decide : 2 ≤ 1000), ?_⟩
    have := q S (.refl _); rwa [tld_no hn] at this
  rw [decide_eq_false (show ¬ (n : Int) = 8 by omega)]
  refine iteF ?_
  have lc := anti_pow A hc
  have hp7 : 2 ^ n ≤ 2 ^ 7 := Nat.pow_le_pow_right (by decide) (by omega)
  have l7 : cs.length ≤ 128 := Nat.le_trans lc hp7
  have bp : (1 : Int) * 2 ^ ((p : Nat) : Int).toNat = ((2 ^ p : Nat) : Int) := (pow_of p (by omega)).1
  have bn : (1 : Int) * 2 ^ ((n : Nat) : Int).toNat = ((2 ^ n : Nat) : Int) := (pow_of n (by omega)).1
  refine ⟨_, rfl, ⟨by omega, by omega, by decide⟩, _, rfl, ⟨by omega, by omega, by decide⟩, sz (by decide : 2 ≤ 1000), ?_⟩
  rw [bp, bn]
  refine ⟨_, rfl, rfl, _, _, rfl, _, _, rfl, rfl, ?_⟩
  dsimp only
  refine sa ⟨_, rfl, ⟨_, .inl gr⟩, _, .inl gr, ?_⟩
  refine runLc_pure (f := fun x => x) (g := fun x => match x with | .int c => decide (0 < Builtin.bitAnd c ((2 ^ p : Nat) : Int)) | _ => false) (.inl gr) _ [] (fun z hz Q' q' => ?_) (fun z hz _ Q' q' => ⟨_, rfl, q'⟩) (by unfold cv; rw [List.length_map]; show 0 + _ < _; omega) ?_
  · obtain ⟨c, _, rfl⟩ := mem_cv hz
    exact ⟨_, rfl, _, rfl, _, rfl, q'⟩
  rw [List.nil_append, List.map_id', cv_filter (h := fun c => c.testBit p) fun c _ => by
    dsimp only
    rw [bitAnd_nat, and_bit]
    have := Nat.two_pow_pos p
    cases hb : c.testBit p with
    | false => exact decide_eq_false (by simp)
    | true => rw [if_pos rfl]; exact decide_eq_true (by omega)]
  have gt := get_end S (MO.lst (cv (cs.filter fun c => c.testBit p)))
  have x1 := Ext.app S [MO.lst (cv (cs.filter fun c => c.testBit p))]
  have gr1 := x1.keep _ _ gr
  have lf : (cs.filter fun c => c.testBit p).length ≤ cs.length := List.length_filter_le _ _
  generalize S ++ [MO.lst (cv (cs.filter fun c => c.testBit p))] = S1 at gt x1 gr1
  have e8 : (n : Int) + 1 = ((n + 1 : Nat) : Int) := by omega
  refine sret ⟨_, rfl, k, rfl, ?_⟩
  cases k with
  | true =>
    refine iteT ⟨_, rfl, _, rfl, _, rfl, ⟨_, .inl gt⟩, _, .inl gt, ?_⟩
    refine runLc_pure (f := fun x => match x with | .int c => .int (c - ((2 ^ p : Nat) : Int) + ((2 ^ n : Nat) : Int)) | _ => .non) (g := fun _ => true) (.inl gt) _ [] (fun z hz Q' q' => q') (fun z hz _ Q' q' => ?_) (by unfold cv; rw [List.length_map]; show 0 + _ < _; omega) ?_
    · obtain ⟨c, h, rfl⟩ := mem_cv hz
      exact ⟨_, rfl, _, rfl, _, rfl, q'⟩
    rw [List.nil_append, List.filter_eq_self.mpr (fun _ _ => rfl)]
    have e : (cv (cs.filter fun c => c.testBit p)).map (fun x => match x with | .int c => PV.int (c - ((2 ^ p : Nat) : Int) + ((2 ^ n : Nat) : Int)) | _ => .non) = cv ((cs.filter fun c => c.testBit p).map fun c => (c - (c &&& 2 ^ p)) ||| 2 ^ n) := by
      unfold cv
      rw [List.map_map, List.map_map]
      refine List.map_congr_left fun c h => ?_
      obtain ⟨h1, h2⟩ := List.mem_filter.mp h
      show PV.int ((c : Int) - ((2 ^ p : Nat) : Int) + ((2 ^ n : Nat) : Int)) = PV.int ((((c - (c &&& 2 ^ p)) ||| 2 ^ n : Nat)) : Int)
      have hb := bit_le h2
      rw [and_bit, if_pos h2, or_add (Nat.lt_of_le_of_lt (Nat.sub_le _ _) (hc c h1))]
      congr 1
      omega
    rw [e]
    have gx := (Ext.app S1 [MO.lst (cv ((cs.filter fun c => c.testBit p).map fun c => (c - (c &&& 2 ^ p)) ||| 2 ^ n))]).keep _ _ gr1
    refine ⟨_, _, gx, get_end _ _, sz (by unfold cv; rw [List.length_map, List.length_map, List.length_map]; omega), ?_⟩
    dsimp only [wNil]
    rw [e8, show cv cs ++ cv ((cs.filter fun c => c.testBit p).map fun c => (c - (c &&& 2 ^ p)) ||| 2 ^ n) = cv (dou n p cs) from List.map_append.symm]
    refine ⟨n + 1, _, dou n p cs, rfl, hn, sl_end _ _, anti_dou hp hc A, dou_lt hc, by unfold dou; rw [List.length_append, List.length_map]; omega, fun S3 x3 => ⟨sz (by decide : 2 ≤ 1000), ?_⟩⟩
    have := q S3 (x1.trans (((Ext.app _ _).trans (Ext.app _ _)).trans x3))
    rw [tld_yes hn, if_pos rfl] at this
    exact this
  | false =>
    refine iteF ⟨_, rfl, _, rfl, ⟨_, .inl gr1⟩, _, .inl gr1, ?_⟩
    refine runLc_pure (f := fun x => match x with | .int c => .int (c + ((2 ^ n : Nat) : Int) * (if inP (.int c) (cv (cs.filter fun c => c.testBit p)) = true then 1 else 0)) | _ => .non) (g := fun _ => true) (.inl gr1) _ [] (fun z hz Q' q' => q') (fun z hz _ Q' q' => ?_) (by unfold cv; rw [List.length_map]; show 0 + _ < _; omega) ?_
    · obtain ⟨c, h, rfl⟩ := mem_cv hz
      have h2 : 2 ^ n ≤ 128 := hp7
      refine ⟨_, rfl, _, rfl, _, rfl, _, rfl, _, .inl gt, rfl, ?_, ?_⟩
      · unfold cv
        rw [List.all_map]
        exact List.all_eq_true.mpr fun _ _ => rfl
      · refine ⟨?_, q'⟩
        show CMul ((2 ^ n : Nat) : Int) (if (if false = true then !inP (.int (c : Nat)) (cv (cs.filter fun c => c.testBit p)) else inP (.int (c : Nat)) (cv (cs.filter fun c => c.testBit p))) = true then 1 else 0)
        cases (if false = true then !inP (.int (c : Nat)) (cv (cs.filter fun c => c.testBit p)) else inP (.int (c : Nat)) (cv (cs.filter fun c => c.testBit p))) with
        | true => rw [if_pos rfl]; exact mul_one_ok h2
        | false => rw [if_neg (by decide)]; exact mul_zero_ok h2
    rw [List.nil_append, List.filter_eq_self.mpr (fun _ _ => rfl)]
    have e : (cv cs).map (fun x => match x with | .int c => PV.int (c + ((2 ^ n : Nat) : Int) * (if inP (.int c) (cv (cs.filter fun c => c.testBit p)) = true then 1 else 0)) | _ => .non) = cv (spr n p cs) := by
      unfold spr cv
      rw [List.map_map, List.map_map]
      refine List.map_congr_left fun c h => ?_
      show PV.int ((c : Int) + ((2 ^ n : Nat) : Int) * (if inP (.int (c : Nat)) (cv (cs.filter fun c => c.testBit p)) = true then 1 else 0)) = PV.int (((if c.testBit p = true then c ||| 2 ^ n else c : Nat)) : Int)
      rw [in_cv]
      by_cases hb : c.testBit p = true
      · rw [if_pos (decide_eq_true (show c ∈ cs.filter (fun c => c.testBit p) from List.mem_filter.mpr ⟨h, hb⟩)), if_pos hb, or_add (hc c h), Int.mul_one, Int.natCast_add]
      · rw [if_neg (show ¬ decide (c ∈ cs.filter (fun c => c.testBit p)) = true from fun z => hb (List.mem_filter.mp (of_decide_eq_true z)).2), if_neg hb]
        congr 1
    rw [e]
    dsimp only [wNil]
    rw [e8]
    refine ⟨n + 1, _, spr n p cs, rfl, hn, sl_end _ _, anti_spr hp hc A, spr_lt hc, by unfold spr; rw [List.length_map]; omega, fun S3 x3 => ⟨sz (by decide : 2 ≤ 1000), ?_⟩⟩
    have := q S3 (x1.trans ((Ext.app _ _).trans x3))
    rw [tld_yes hn, if_neg (by decide)] at this
    exact this
def td (k : Bool) (n p : Nat) (cs : List Nat) : PyData := if n + 1 ≤ 8 then .tuple [.str (Str.ofString "told"), fd (n + 1) (if k = true then dou n p cs else spr n p cs)] else .tuple [.str (Str.ofString "many"), .str (Str.ofString "places")]
theorem pd_tld (S : Sto) (k : Bool) (n p : Nat) (cs : List Nat) : PDt S (tld k n p cs) (td k n p cs) := by
  unfold tld td
  by_cases h : n + 1 ≤ 8
  · rw [if_pos h, if_pos h]; exact .tup (.cons (.str _) (.cons (pd_fam S _ _) .nil))
  · rw [if_neg h, if_neg h]; exact .tup (.cons (.str _) (.cons (.str _) .nil))
theorem sm_tld {k : Bool} {n p : Nat} {cs : List Nat} (A : Anti cs) (hc : ∀ c ∈ cs, c < 2 ^ n) : SmD 200100 9 (td k n p cs) := by
  unfold td
  by_cases h : n + 1 ≤ 8
  · rw [if_pos h]
    have lc := anti_pow A hc
    have hp7 : 2 ^ n ≤ 2 ^ 7 := Nat.pow_le_pow_right (by decide) (by omega)
    refine sm_told (by omega) ?_
    cases k with
    | true =>
      rw [if_pos rfl]
      unfold dou
      have := List.length_filter_le (fun c : Nat => c.testBit p) cs
      rw [List.length_append, List.length_map]; omega
    | false => rw [if_neg (by decide)]; unfold spr; rw [List.length_map]; omega
  · rw [if_neg h]; exact sm_many.mono (by decide) (by decide)
theorem beq_int {i j : Int} {S : Sto} {Q : Post} (h : Q (.bl (decide (i = j) ^^ false)) S) : bEq false (.int i) (.int j) S Q := h
theorem len_law : ∀ vs S Q, spLaw vs S Q → vs.length = 1 := len_law'
theorem rd_law : ∀ vs S Q, spLaw vs S Q → w_law sp_l_tape sp_l_draw sp_l_n sp_l_members sp_l_family sp_l_told sp_l_due { nx := fun _ S' => Q .non S', rt := Q } (startP N_law vs) S := by
  intro vs S Q h
  obtain ⟨p0, ns, rfl, hl, hp0, q⟩ := law_in h
  refine sa ⟨_, rfl, p0, ns, rfl, hl, hp0, fun m S1 F => ?_⟩
  refine sfor ⟨2, rfl, ⟨by decide, by decide⟩, ?_⟩
  refine its_by (fun xs fr S => ∃ (T : Nat) (a2 a3 a4 a5 a6 a7 a8 a9 a10 : Option PV), fr = [some p0, some (.ref m), a2, a3, a4, a5, a6, a7, a8, a9, a10] ∧ Tape S m T ∧ T + 1000 * xs.length ≤ 10000) ?_ ?_ ⟨0, none, none, none, none, none, none, none, none, none, rfl, F, by decide⟩
  · rintro fr S2 ⟨T, a2, a3, a4, a5, a6, a7, a8, a9, a10, rfl, F2, hT⟩
    exact q _
  rintro x xs fr S2 K hK ⟨T, a2, a3, a4, a5, a6, a7, a8, a9, a10, rfl, F2, hT⟩
  rw [List.length_cons] at hT
  refine sa ⟨_, rfl, m, T, 8, rfl, by decide, by decide, by omega, F2, fun d S3 hd G3 F3 => ?_⟩
  -- how many places
  dsimp only [wC, List.set]
  refine beq_int ?_
  refine join (fun fr S => ∃ (b : Bool) (n : Nat), fr = [some p0, some (.ref m), some x, some (.bl b), some (.int (n : Nat)), a5, a6, a7, a8, a9, a10] ∧ n ≤ 8 ∧ Tape S m (T + 3)) (fun N hN => ?_) ?_
  · refine ⟨_, rfl, _, rfl, ?_⟩
    by_cases h0 : (d : Int) = 0
    · rw [decide_eq_true h0]
      exact iteT (hN _ _ ⟨_, 8, rfl, by omega, F3.mono (by omega)⟩)
    · rw [decide_eq_false h0]
      exact iteF ⟨_, rfl, m, _, 1, rfl, by decide, by omega, F3, fun n S4 n1 n8 G4 F4 => hN _ _ ⟨_, n, rfl, n8, F4⟩⟩
  clear F3 G3
  rintro _ S4 ⟨b, n, rfl, n8, F4⟩
  refine sa ⟨_, rfl, _, rfl, m, _, n, rfl, n8, by omega, F4, fun cs S5 p A c1 c2 g5 G5 F5 hmp => ?_⟩
  refine sa ⟨_, rfl, _, rfl, n, p, cs, rfl, n8, .inl g5, A, c1, by omega, fun S6 x6 => ?_⟩
  have g6 := x6.keep _ _ g5
  have F6 := F5.ext x6
  have smf := sm_fam n cs (by omega) (by omega)
  refine sa ⟨_, rfl, _, pd_fam S6 n cs, smf.sh, Nat.le_trans smf.dp (by decide), repr_len (pd_fam S6 n cs) smf (by decide), ?_⟩
  refine sfor1 ⟨_, rfl, n, rfl, ⟨by omega, by omega⟩, ?_⟩
  refine its_by (fun xs fr S => ∃ (b8 b9 b10 : Option PV), fr = [some p0, some (.ref m), some x, some (.bl b), some (.int (n : Nat)), some (.ref p), some (fv (.int (n : Nat)) cs), some (.str (fd n cs).shown), b8, b9, b10] ∧ Ext S6 S ∧ ∀ y ∈ xs, ∃ i : Nat, y = .int (i : Nat) ∧ i < n) ?_ ?_ ⟨a8, a9, a10, rfl, .refl _, fun y hy => ?_⟩
  · rintro fr S7 ⟨b8, b9, b10, rfl, xx, _⟩
    exact hK _ _ ⟨_, _, _, _, _, _, _, _, _, _, rfl, F6.ext xx, by omega⟩
  rotate_left
  · rw [Int.toNat_natCast, range_cv] at hy
    obtain ⟨i, hi, rfl⟩ := mem_cv hy
    exact ⟨i, rfl, List.mem_range.mp hi⟩
  rintro y ys fr S7 K2 hK2 ⟨b8, b9, b10, rfl, x7, hy⟩
  obtain ⟨i, rfl, hi⟩ := hy y List.mem_cons_self
  refine sfor1 ⟨sz (by decide : 4 ≤ 1000), ?_⟩
  refine its_by (fun xs fr S => ∃ (c9 c10 : Option PV), fr = [some p0, some (.ref m), some x, some (.bl b), some (.int (n : Nat)), some (.ref p), some (fv (.int (n : Nat)) cs), some (.str (fd n cs).shown), some (.int (i : Nat)), c9, c10] ∧ Ext S6 S ∧ ∀ y ∈ xs, ∃ k, y = .bl k) ?_ ?_ ⟨b9, b10, rfl, x7, by simp⟩
  · rintro fr S8 ⟨c9, c10, rfl, xx, _⟩
    exact hK2 _ _ ⟨_, _, _, rfl, xx, fun y h => hy y (List.mem_cons_of_mem _ h)⟩
  rintro z zs fr S8 K3 hK3 ⟨c9, c10, rfl, x8, hz⟩
  obtain ⟨k, rfl⟩ := hz z List.mem_cons_self
  have t1 := sm_tld (k := k) (p := i) A c1
  refine sa ⟨_, rfl, _, rfl, _, rfl, k, n, i, cs, rfl, hi, n8, c1, fun S9 x9 => ?_⟩
  refine sret1 ⟨_, rfl, _, pd_tld S9 k n i cs, t1.sh, Nat.le_trans t1.dp (by decide), repr_len (pd_tld S9 k n i cs) t1 (by decide), ?_⟩
  have x69 := x8.trans x9
  refine ⟨_, rfl, _, rfl, _, rfl, _, rfl, k, n, i, p, cs, rfl, x69.keep _ _ g6, A, hi, n8, c1, fun S10 x10 => ?_⟩
  refine ⟨_, pd_tld S10 k n i cs, t1.sh, Nat.le_trans t1.dp (by decide), repr_len (pd_tld S10 k n i cs) t1 (by decide), _, rfl, ?_⟩
  rw [decide_eq_true rfl]
  refine iteF ⟨_, rfl, _, pd_fam S10 n cs, smf.sh, Nat.le_trans smf.dp (by decide), repr_len (pd_fam S10 n cs) smf (by decide), ?_⟩
  refine ⟨_, rfl, _, rfl, ?_⟩
  rw [decide_eq_true rfl]
  exact iteF (hK3 _ _ ⟨_, _, rfl, x69.trans x10, fun y h => hz y (List.mem_cons_of_mem _ h)⟩)
end k23

namespace k23
open PySem PySem.Spec PyProof.Rows L2 M
theorem all_mk {l : PySem.W.OpenLaw} {w : World} {K : PySem.W.Frag} {h : Heap} {mg : Str → Option Value} {fa : Addr} (X : K.In h) (G : h.Ns mainGlobals mg) (hfa : mg "law" = some (.ref fa))
    {f_l_tape : Addr} {od_l_tape an_l_tape : Option Addr} {sl_l_tape : Array (Option Value)} {oc_l_tape kV_l_tape dc_l_tape pm_l_tape cd_l_tape ct_l_tape : Value}
    {f_l_draw : Addr} {od_l_draw an_l_draw : Option Addr} {sl_l_draw : Array (Option Value)} {oc_l_draw kV_l_draw dc_l_draw pm_l_draw cd_l_draw ct_l_draw : Value}
    {f_l_n : Addr} {od_l_n an_l_n : Option Addr} {sl_l_n : Array (Option Value)} {oc_l_n kV_l_n dc_l_n pm_l_n cd_l_n ct_l_n : Value}
    {f_l_size : Addr} {od_l_size an_l_size : Option Addr} {sl_l_size : Array (Option Value)} {oc_l_size kV_l_size dc_l_size pm_l_size cd_l_size ct_l_size : Value}
    {f_l_least : Addr} {od_l_least an_l_least : Option Addr} {sl_l_least : Array (Option Value)} {oc_l_least kV_l_least dc_l_least pm_l_least cd_l_least ct_l_least : Value}
    {f_l_members : Addr} {od_l_members an_l_members : Option Addr} {sl_l_members : Array (Option Value)} {oc_l_members kV_l_members dc_l_members pm_l_members cd_l_members ct_l_members : Value}
    {f_l_set : Addr} {od_l_set an_l_set : Option Addr} {sl_l_set : Array (Option Value)} {oc_l_set kV_l_set dc_l_set pm_l_set cd_l_set ct_l_set : Value}
    {f_l_family : Addr} {od_l_family an_l_family : Option Addr} {sl_l_family : Array (Option Value)} {oc_l_family kV_l_family dc_l_family pm_l_family cd_l_family ct_l_family : Value}
    {f_places_bounded : Addr} {od_places_bounded an_places_bounded : Option Addr} {sl_places_bounded : Array (Option Value)} {oc_places_bounded kV_places_bounded dc_places_bounded pm_places_bounded cd_places_bounded ct_places_bounded : Value}
    {f_taken_from : Addr} {od_taken_from an_taken_from : Option Addr} {sl_taken_from : Array (Option Value)} {oc_taken_from kV_taken_from dc_taken_from pm_taken_from cd_taken_from ct_taken_from : Value}
    {f_doubled : Addr} {od_doubled an_doubled : Option Addr} {sl_doubled : Array (Option Value)} {oc_doubled kV_doubled dc_doubled pm_doubled cd_doubled ct_doubled : Value}
    {f_spread : Addr} {od_spread an_spread : Option Addr} {sl_spread : Array (Option Value)} {oc_spread kV_spread dc_spread pm_spread cd_spread ct_spread : Value}
    {f_l_told : Addr} {od_l_told an_l_told : Option Addr} {sl_l_told : Array (Option Value)} {oc_l_told kV_l_told dc_l_told pm_l_told cd_l_told ct_l_told : Value}
    {f_l_due : Addr} {od_l_due an_l_due : Option Addr} {sl_l_due : Array (Option Value)} {oc_l_due kV_l_due dc_l_due pm_l_due cd_l_due ct_l_due : Value}
    {f_law : Addr} {od_law an_law : Option Addr} {sl_law : Array (Option Value)} {oc_law kV_law dc_law pm_law cd_law ct_law : Value}
    {tk_MOST_PLACES : Nat}
    {aX_R : Addr} {ddX_R : Option Addr} {cdX_R : ClassData} {slX_R : Array (Option Value)}
    {aX_NoPaper NX_NoPaper : Addr} {nmX_NoPaper qX_NoPaper : Str} {bsX_NoPaper subX_NoPaper : List Value} {snX_NoPaper : List Str} {abX_NoPaper : Bool} {colX_NoPaper : Option Bool} {ddX_NoPaper : Option Addr} {k0X_NoPaper k1X_NoPaper k2X_NoPaper k3X_NoPaper k5X_NoPaper : Option Value}
    {aX_NoText NX_NoText : Addr} {nmX_NoText qX_NoText : Str} {bsX_NoText subX_NoText : List Value} {snX_NoText : List Str} {abX_NoText : Bool} {colX_NoText : Option Bool} {ddX_NoText : Option Addr} {k0X_NoText k1X_NoText k2X_NoText k3X_NoText k5X_NoText : Option Value}
    {aX_NoSteps NX_NoSteps : Addr} {nmX_NoSteps qX_NoSteps : Str} {bsX_NoSteps subX_NoSteps : List Value} {snX_NoSteps : List Str} {abX_NoSteps : Bool} {colX_NoSteps : Option Bool} {ddX_NoSteps : Option Addr} {k0X_NoSteps k1X_NoSteps k2X_NoSteps k3X_NoSteps k5X_NoSteps : Option Value}
    {aX_TooMany NX_TooMany : Addr} {nmX_TooMany qX_TooMany : Str} {bsX_TooMany subX_TooMany : List Value} {snX_TooMany : List Str} {abX_TooMany : Bool} {colX_TooMany : Option Bool} {ddX_TooMany : Option Addr} {k0X_TooMany k1X_TooMany k2X_TooMany k3X_TooMany k5X_TooMany : Option Value}
    {aX_NoRow NX_NoRow : Addr} {nmX_NoRow qX_NoRow : Str} {bsX_NoRow subX_NoRow : List Value} {snX_NoRow : List Str} {abX_NoRow : Bool} {colX_NoRow : Option Bool} {ddX_NoRow : Option Addr} {k0X_NoRow k1X_NoRow k2X_NoRow k3X_NoRow k5X_NoRow : Option Value}
    {fX_TooMany : Addr} {fodX_TooMany fanX_TooMany : Option Addr} {fslX_TooMany : Array (Option Value)} {focX_TooMany fkX_TooMany fdcX_TooMany fpmX_TooMany fcdX_TooMany fctX_TooMany : Value}
    (a_l_tape : PySem.W.nsIn K mainGlobals "_law_tape" = some (some (.ref f_l_tape))) (l_l_tape : K.lookup f_l_tape = some ⟨oc_l_tape, od_l_tape, .func (PySem.W.fnOf "_law_tape" "_law_tape" (defArgs s_l_tape) (defBody s_l_tape) (defScope s_l_tape) .none kV_l_tape dc_l_tape pm_l_tape an_l_tape cd_l_tape ct_l_tape), sl_l_tape⟩) (c_l_tape : PySem.W.codeIn K cd_l_tape "_law_tape" = true) (k_l_tape : PySem.W.keepIn K (.ref f_l_tape) = true)
    (a_l_draw : PySem.W.nsIn K mainGlobals "_law_draw" = some (some (.ref f_l_draw))) (l_l_draw : K.lookup f_l_draw = some ⟨oc_l_draw, od_l_draw, .func (PySem.W.fnOf "_law_draw" "_law_draw" (defArgs s_l_draw) (defBody s_l_draw) (defScope s_l_draw) .none kV_l_draw dc_l_draw pm_l_draw an_l_draw cd_l_draw ct_l_draw), sl_l_draw⟩) (c_l_draw : PySem.W.codeIn K cd_l_draw "_law_draw" = true) (k_l_draw : PySem.W.keepIn K (.ref f_l_draw) = true)
    (a_l_n : PySem.W.nsIn K mainGlobals "_law_n" = some (some (.ref f_l_n))) (l_l_n : K.lookup f_l_n = some ⟨oc_l_n, od_l_n, .func (PySem.W.fnOf "_law_n" "_law_n" (defArgs s_l_n) (defBody s_l_n) (defScope s_l_n) .none kV_l_n dc_l_n pm_l_n an_l_n cd_l_n ct_l_n), sl_l_n⟩) (c_l_n : PySem.W.codeIn K cd_l_n "_law_n" = true) (k_l_n : PySem.W.keepIn K (.ref f_l_n) = true)
    (a_l_size : PySem.W.nsIn K mainGlobals "_law_size" = some (some (.ref f_l_size))) (l_l_size : K.lookup f_l_size = some ⟨oc_l_size, od_l_size, .func (PySem.W.fnOf "_law_size" "_law_size" (defArgs s_l_size) (defBody s_l_size) (defScope s_l_size) .none kV_l_size dc_l_size pm_l_size an_l_size cd_l_size ct_l_size), sl_l_size⟩) (c_l_size : PySem.W.codeIn K cd_l_size "_law_size" = true) (k_l_size : PySem.W.keepIn K (.ref f_l_size) = true)
    (a_l_least : PySem.W.nsIn K mainGlobals "_law_least" = some (some (.ref f_l_least))) (l_l_least : K.lookup f_l_least = some ⟨oc_l_least, od_l_least, .func (PySem.W.fnOf "_law_least" "_law_least" (defArgs s_l_least) (defBody s_l_least) (defScope s_l_least) .none kV_l_least dc_l_least pm_l_least an_l_least cd_l_least ct_l_least), sl_l_least⟩) (c_l_least : PySem.W.codeIn K cd_l_least "_law_least" = true) (k_l_least : PySem.W.keepIn K (.ref f_l_least) = true)
    (a_l_members : PySem.W.nsIn K mainGlobals "_law_members" = some (some (.ref f_l_members))) (l_l_members : K.lookup f_l_members = some ⟨oc_l_members, od_l_members, .func (PySem.W.fnOf "_law_members" "_law_members" (defArgs s_l_members) (defBody s_l_members) (defScope s_l_members) .none kV_l_members dc_l_members pm_l_members an_l_members cd_l_members ct_l_members), sl_l_members⟩) (c_l_members : PySem.W.codeIn K cd_l_members "_law_members" = true) (k_l_members : PySem.W.keepIn K (.ref f_l_members) = true)
    (a_l_set : PySem.W.nsIn K mainGlobals "_law_set" = some (some (.ref f_l_set))) (l_l_set : K.lookup f_l_set = some ⟨oc_l_set, od_l_set, .func (PySem.W.fnOf "_law_set" "_law_set" (defArgs s_l_set) (defBody s_l_set) (defScope s_l_set) .none kV_l_set dc_l_set pm_l_set an_l_set cd_l_set ct_l_set), sl_l_set⟩) (c_l_set : PySem.W.codeIn K cd_l_set "_law_set" = true) (k_l_set : PySem.W.keepIn K (.ref f_l_set) = true)
    (a_l_family : PySem.W.nsIn K mainGlobals "_law_family" = some (some (.ref f_l_family))) (l_l_family : K.lookup f_l_family = some ⟨oc_l_family, od_l_family, .func (PySem.W.fnOf "_law_family" "_law_family" (defArgs s_l_family) (defBody s_l_family) (defScope s_l_family) .none kV_l_family dc_l_family pm_l_family an_l_family cd_l_family ct_l_family), sl_l_family⟩) (c_l_family : PySem.W.codeIn K cd_l_family "_law_family" = true) (k_l_family : PySem.W.keepIn K (.ref f_l_family) = true)
    (a_places_bounded : PySem.W.nsIn K mainGlobals "places_bounded" = some (some (.ref f_places_bounded))) (l_places_bounded : K.lookup f_places_bounded = some ⟨oc_places_bounded, od_places_bounded, .func (PySem.W.fnOf "places_bounded" "places_bounded" (defArgs s_places_bounded) (defBody s_places_bounded) (defScope s_places_bounded) .none kV_places_bounded dc_places_bounded pm_places_bounded an_places_bounded cd_places_bounded ct_places_bounded), sl_places_bounded⟩) (c_places_bounded : PySem.W.codeIn K cd_places_bounded "places_bounded" = true) (k_places_bounded : PySem.W.keepIn K (.ref f_places_bounded) = true)
    (a_taken_from : PySem.W.nsIn K mainGlobals "taken_from" = some (some (.ref f_taken_from))) (l_taken_from : K.lookup f_taken_from = some ⟨oc_taken_from, od_taken_from, .func (PySem.W.fnOf "taken_from" "taken_from" (defArgs s_taken_from) (defBody s_taken_from) (defScope s_taken_from) .none kV_taken_from dc_taken_from pm_taken_from an_taken_from cd_taken_from ct_taken_from), sl_taken_from⟩) (c_taken_from : PySem.W.codeIn K cd_taken_from "taken_from" = true) (k_taken_from : PySem.W.keepIn K (.ref f_taken_from) = true)
    (a_doubled : PySem.W.nsIn K mainGlobals "doubled" = some (some (.ref f_doubled))) (l_doubled : K.lookup f_doubled = some ⟨oc_doubled, od_doubled, .func (PySem.W.fnOf "doubled" "doubled" (defArgs s_doubled) (defBody s_doubled) (defScope s_doubled) .none kV_doubled dc_doubled pm_doubled an_doubled cd_doubled ct_doubled), sl_doubled⟩) (c_doubled : PySem.W.codeIn K cd_doubled "doubled" = true) (k_doubled : PySem.W.keepIn K (.ref f_doubled) = true)
    (a_spread : PySem.W.nsIn K mainGlobals "spread" = some (some (.ref f_spread))) (l_spread : K.lookup f_spread = some ⟨oc_spread, od_spread, .func (PySem.W.fnOf "spread" "spread" (defArgs s_spread) (defBody s_spread) (defScope s_spread) .none kV_spread dc_spread pm_spread an_spread cd_spread ct_spread), sl_spread⟩) (c_spread : PySem.W.codeIn K cd_spread "spread" = true) (k_spread : PySem.W.keepIn K (.ref f_spread) = true)
    (a_l_told : PySem.W.nsIn K mainGlobals "_law_told" = some (some (.ref f_l_told))) (l_l_told : K.lookup f_l_told = some ⟨oc_l_told, od_l_told, .func (PySem.W.fnOf "_law_told" "_law_told" (defArgs s_l_told) (defBody s_l_told) (defScope s_l_told) .none kV_l_told dc_l_told pm_l_told an_l_told cd_l_told ct_l_told), sl_l_told⟩) (c_l_told : PySem.W.codeIn K cd_l_told "_law_told" = true) (k_l_told : PySem.W.keepIn K (.ref f_l_told) = true)
    (a_l_due : PySem.W.nsIn K mainGlobals "_law_due" = some (some (.ref f_l_due))) (l_l_due : K.lookup f_l_due = some ⟨oc_l_due, od_l_due, .func (PySem.W.fnOf "_law_due" "_law_due" (defArgs s_l_due) (defBody s_l_due) (defScope s_l_due) .none kV_l_due dc_l_due pm_l_due an_l_due cd_l_due ct_l_due), sl_l_due⟩) (c_l_due : PySem.W.codeIn K cd_l_due "_law_due" = true) (k_l_due : PySem.W.keepIn K (.ref f_l_due) = true)
    (a_law : PySem.W.nsIn K mainGlobals "law" = some (some (.ref f_law))) (l_law : K.lookup f_law = some ⟨oc_law, od_law, .func (PySem.W.fnOf "law" "law" (defArgs s_law) (defBody s_law) (defScope s_law) .none kV_law dc_law pm_law an_law cd_law ct_law), sl_law⟩) (c_law : PySem.W.codeIn K cd_law "law" = true) (k_law : PySem.W.keepIn K (.ref f_law) = true)
    (z_int : PySem.W.nsIn K mainGlobals "int" = some none)
    (z_isinstance : PySem.W.nsIn K mainGlobals "isinstance" = some none)
    (z_len : PySem.W.nsIn K mainGlobals "len" = some none)
    (z_list : PySem.W.nsIn K mainGlobals "list" = some none)
    (z_max : PySem.W.nsIn K mainGlobals "max" = some none)
    (z_range : PySem.W.nsIn K mainGlobals "range" = some none)
    (z_repr : PySem.W.nsIn K mainGlobals "repr" = some none)
    (z_set : PySem.W.nsIn K mainGlobals "set" = some none)
    (z_sorted : PySem.W.nsIn K mainGlobals "sorted" = some none)
    (z_tuple : PySem.W.nsIn K mainGlobals "tuple" = some none)
    (y_MOST_PLACES : PySem.W.nsIn K mainGlobals "MOST_PLACES" = some (some (.int 8 tk_MOST_PLACES)))
    (nX_R : PySem.W.nsIn K mainGlobals "RivalError" = some (some (.ref aX_R)))
    (oX_R : K.lookup aX_R = some ⟨.type "type", ddX_R, .cls cdX_R, slX_R⟩)
    (nX_NoPaper : PySem.W.nsIn K mainGlobals "NoPaper" = some (some (.ref aX_NoPaper)))
    (oX_NoPaper : K.lookup aX_NoPaper = some (excClassObj nmX_NoPaper qX_NoPaper aX_NoPaper NX_NoPaper bsX_NoPaper (.ref aX_R :: bmV) true snX_NoPaper subX_NoPaper abX_NoPaper colX_NoPaper ddX_NoPaper k0X_NoPaper k1X_NoPaper k2X_NoPaper k3X_NoPaper k5X_NoPaper "ValueError.__new__"))
    (saX_NoPaper : PySem.W.findIn K (.ref aX_NoPaper) "__setattr__" = some (some (.builtin "object.__setattr__")))
    (gaX_NoPaper : PySem.W.findIn K (.ref aX_NoPaper) "__getattribute__" = some (some (.builtin "BaseException.__getattribute__")))
    (gxX_NoPaper : PySem.W.findIn K (.ref aX_NoPaper) "__getattr__" = some none)
    (caX_NoPaper : PySem.W.findIn K (.ref aX_NoPaper) "__class__" = some (some (.builtin "object.__class__")))
    (obX_NoPaper : PySem.W.mroIn K aX_NoPaper (.type "object") = some true)
    (beX_NoPaper : PySem.W.mroIn K aX_NoPaper (.type "BaseException") = some true)
    (kcX_NoPaper : PySem.W.kitCls K (.ref aX_NoPaper) (.ref aX_NoPaper) = some true)
    (nX_NoText : PySem.W.nsIn K mainGlobals "NoText" = some (some (.ref aX_NoText)))
    (oX_NoText : K.lookup aX_NoText = some (excClassObj nmX_NoText qX_NoText aX_NoText NX_NoText bsX_NoText (.ref aX_R :: bmV) true snX_NoText subX_NoText abX_NoText colX_NoText ddX_NoText k0X_NoText k1X_NoText k2X_NoText k3X_NoText k5X_NoText "ValueError.__new__"))
    (saX_NoText : PySem.W.findIn K (.ref aX_NoText) "__setattr__" = some (some (.builtin "object.__setattr__")))
    (gaX_NoText : PySem.W.findIn K (.ref aX_NoText) "__getattribute__" = some (some (.builtin "BaseException.__getattribute__")))
    (gxX_NoText : PySem.W.findIn K (.ref aX_NoText) "__getattr__" = some none)
    (caX_NoText : PySem.W.findIn K (.ref aX_NoText) "__class__" = some (some (.builtin "object.__class__")))
    (obX_NoText : PySem.W.mroIn K aX_NoText (.type "object") = some true)
    (beX_NoText : PySem.W.mroIn K aX_NoText (.type "BaseException") = some true)
    (kcX_NoText : PySem.W.kitCls K (.ref aX_NoText) (.ref aX_NoText) = some true)
    (nX_NoSteps : PySem.W.nsIn K mainGlobals "NoSteps" = some (some (.ref aX_NoSteps)))
    (oX_NoSteps : K.lookup aX_NoSteps = some (excClassObj nmX_NoSteps qX_NoSteps aX_NoSteps NX_NoSteps bsX_NoSteps (.ref aX_R :: bmV) true snX_NoSteps subX_NoSteps abX_NoSteps colX_NoSteps ddX_NoSteps k0X_NoSteps k1X_NoSteps k2X_NoSteps k3X_NoSteps k5X_NoSteps "ValueError.__new__"))
    (saX_NoSteps : PySem.W.findIn K (.ref aX_NoSteps) "__setattr__" = some (some (.builtin "object.__setattr__")))
    (gaX_NoSteps : PySem.W.findIn K (.ref aX_NoSteps) "__getattribute__" = some (some (.builtin "BaseException.__getattribute__")))
    (gxX_NoSteps : PySem.W.findIn K (.ref aX_NoSteps) "__getattr__" = some none)
    (caX_NoSteps : PySem.W.findIn K (.ref aX_NoSteps) "__class__" = some (some (.builtin "object.__class__")))
    (obX_NoSteps : PySem.W.mroIn K aX_NoSteps (.type "object") = some true)
    (beX_NoSteps : PySem.W.mroIn K aX_NoSteps (.type "BaseException") = some true)
    (kcX_NoSteps : PySem.W.kitCls K (.ref aX_NoSteps) (.ref aX_NoSteps) = some true)
    (nX_TooMany : PySem.W.nsIn K mainGlobals "TooMany" = some (some (.ref aX_TooMany)))
    (oX_TooMany : K.lookup aX_TooMany = some (excClassObj nmX_TooMany qX_TooMany aX_TooMany NX_TooMany bsX_TooMany (.ref aX_R :: bmV) true snX_TooMany subX_TooMany abX_TooMany colX_TooMany ddX_TooMany k0X_TooMany k1X_TooMany k2X_TooMany k3X_TooMany k5X_TooMany "ValueError.__new__"))
    (saX_TooMany : PySem.W.findIn K (.ref aX_TooMany) "__setattr__" = some (some (.builtin "object.__setattr__")))
    (gaX_TooMany : PySem.W.findIn K (.ref aX_TooMany) "__getattribute__" = some (some (.builtin "BaseException.__getattribute__")))
    (gxX_TooMany : PySem.W.findIn K (.ref aX_TooMany) "__getattr__" = some none)
    (caX_TooMany : PySem.W.findIn K (.ref aX_TooMany) "__class__" = some (some (.builtin "object.__class__")))
    (obX_TooMany : PySem.W.mroIn K aX_TooMany (.type "object") = some true)
    (beX_TooMany : PySem.W.mroIn K aX_TooMany (.type "BaseException") = some true)
    (kcX_TooMany : PySem.W.kitCls K (.ref aX_TooMany) (.ref aX_TooMany) = some true)
    (nX_NoRow : PySem.W.nsIn K mainGlobals "NoRow" = some (some (.ref aX_NoRow)))
    (oX_NoRow : K.lookup aX_NoRow = some (excClassObj nmX_NoRow qX_NoRow aX_NoRow NX_NoRow bsX_NoRow (.ref aX_R :: bmV) true snX_NoRow subX_NoRow abX_NoRow colX_NoRow ddX_NoRow k0X_NoRow k1X_NoRow k2X_NoRow k3X_NoRow k5X_NoRow "ValueError.__new__"))
    (saX_NoRow : PySem.W.findIn K (.ref aX_NoRow) "__setattr__" = some (some (.builtin "object.__setattr__")))
    (gaX_NoRow : PySem.W.findIn K (.ref aX_NoRow) "__getattribute__" = some (some (.builtin "BaseException.__getattribute__")))
    (gxX_NoRow : PySem.W.findIn K (.ref aX_NoRow) "__getattr__" = some none)
    (caX_NoRow : PySem.W.findIn K (.ref aX_NoRow) "__class__" = some (some (.builtin "object.__class__")))
    (obX_NoRow : PySem.W.mroIn K aX_NoRow (.type "object") = some true)
    (beX_NoRow : PySem.W.mroIn K aX_NoRow (.type "BaseException") = some true)
    (kcX_NoRow : PySem.W.kitCls K (.ref aX_NoRow) (.ref aX_NoRow) = some true)
    (tlX : PySem.W.tailIn K bmV (.ref aX_R :: bmV) = true)
    (spX : PySem.W.specialIn K (.builtin "object.__class__") "__get__" = some (some (.builtin "getset_descriptor.__get__")))
    (tkX : PySem.W.takesIn K (.builtin "object.__class__") = some true)
    (rdX : PySem.W.readsIn K aX_R (.type "type") = true)
    (fnX : PySem.W.findCls K (.ref aX_R) (.type "type") "__init__" = some (.val (.builtin "ValueError.__init__")))
    (gsX : PySem.W.specialIn K (.ref aX_R) "__getattribute__" = some (some (.builtin "type.__getattribute__")))
    (fiX_TooMany : PySem.W.findIn K (.ref aX_TooMany) "__init__" = some (some (.ref fX_TooMany)))
    (flX_TooMany : K.lookup fX_TooMany = some ⟨focX_TooMany, fodX_TooMany, .func (PySem.W.fnOf "__init__" "TooMany.__init__" (defArgs (initS 5)) (defBody (initS 5)) (defScope (initS 5)) .none fkX_TooMany fdcX_TooMany fpmX_TooMany fanX_TooMany fcdX_TooMany fctX_TooMany), fslX_TooMany⟩)
    (fcX_TooMany : PySem.W.codeIn K fcdX_TooMany "TooMany.__init__" = true)
    (fkpX_TooMany : PySem.W.keepIn K (.ref fX_TooMany) = true)
    (ftyX_TooMany : PySem.W.typeIn K (.ref fX_TooMany) = some (.type "function"))
    (kpX_TooMany : PySem.W.keepIn K (.ref aX_TooMany) = true)
    (gfX_TooMany_word : PySem.W.findIn K (.ref aX_TooMany) "word" = some none)
    (mX_NoPaper_RivalError : PySem.W.mroIn K aX_NoPaper (.ref aX_R) = some true)
    (mX_NoText_RivalError : PySem.W.mroIn K aX_NoText (.ref aX_R) = some true)
    (mX_NoSteps_RivalError : PySem.W.mroIn K aX_NoSteps (.ref aX_R) = some true)
    (mX_TooMany_RivalError : PySem.W.mroIn K aX_TooMany (.ref aX_R) = some true)
    (mX_NoRow_RivalError : PySem.W.mroIn K aX_NoRow (.ref aX_R) = some true)
    (beX_R : PySem.W.mroIn K aX_R (.type "BaseException") = some true)
    (haX_NoPaper_NoPaper_NoRow_NoSteps_NoText : PySem.W.kitAny K (.ref aX_NoPaper) (([aX_NoPaper, aX_NoRow, aX_NoSteps, aX_NoText] : List Addr).map Value.ref) = some true)
    (haX_NoText_NoPaper_NoRow_NoSteps_NoText : PySem.W.kitAny K (.ref aX_NoText) (([aX_NoPaper, aX_NoRow, aX_NoSteps, aX_NoText] : List Addr).map Value.ref) = some true)
    (haX_NoSteps_NoPaper_NoRow_NoSteps_NoText : PySem.W.kitAny K (.ref aX_NoSteps) (([aX_NoPaper, aX_NoRow, aX_NoSteps, aX_NoText] : List Addr).map Value.ref) = some true)
    (haX_TooMany_NoPaper_NoRow_NoSteps_NoText : PySem.W.kitAny K (.ref aX_TooMany) (([aX_NoPaper, aX_NoRow, aX_NoSteps, aX_NoText] : List Addr).map Value.ref) = some false)
    (haX_NoRow_NoPaper_NoRow_NoSteps_NoText : PySem.W.kitAny K (.ref aX_NoRow) (([aX_NoPaper, aX_NoRow, aX_NoSteps, aX_NoText] : List Addr).map Value.ref) = some true)
    (h1X_NoPaper_TooMany : PySem.W.kitOne K (.ref aX_NoPaper) (.ref aX_TooMany) = some false)
    (h1X_NoText_TooMany : PySem.W.kitOne K (.ref aX_NoText) (.ref aX_TooMany) = some false)
    (h1X_NoSteps_TooMany : PySem.W.kitOne K (.ref aX_NoSteps) (.ref aX_TooMany) = some false)
    (h1X_TooMany_TooMany : PySem.W.kitOne K (.ref aX_TooMany) (.ref aX_TooMany) = some true)
    (h1X_NoRow_TooMany : PySem.W.kitOne K (.ref aX_NoRow) (.ref aX_TooMany) = some false)
    (zX_ValueError : PySem.W.nsIn K mainGlobals "ValueError" = some none)
    (hbX_NoPaper_ValueError : PySem.W.kitOne K (.ref aX_NoPaper) (.type "ValueError") = some true)
    (hbX_NoText_ValueError : PySem.W.kitOne K (.ref aX_NoText) (.type "ValueError") = some true)
    (hbX_NoSteps_ValueError : PySem.W.kitOne K (.ref aX_NoSteps) (.type "ValueError") = some true)
    (hbX_TooMany_ValueError : PySem.W.kitOne K (.ref aX_TooMany) (.type "ValueError") = some true)
    (hbX_NoRow_ValueError : PySem.W.kitOne K (.ref aX_NoRow) (.type "ValueError") = some true)
    (gfX_NoPaper_word : PySem.W.findIn K (.ref aX_NoPaper) "word" = some none)
    (gfX_NoText_word : PySem.W.findIn K (.ref aX_NoText) "word" = some none)
    (gfX_NoSteps_word : PySem.W.findIn K (.ref aX_NoSteps) "word" = some none)
    (n_tabs : PySem.W.noTabs K = true)
    : PySem.W.noTabs K = true ∧ ∃ fd : FuncData, (∀ (s : Shared) (v : Value), BindsTo s fd ⟨[v], []⟩ [("_law_script", v)]) ∧ ∀ base : Heap, K.In base → base.Ns mainGlobals mg → BMod mg base → FnOk l.prog w K mg base CX0 6 fa fd ["_law_script"] (@liftSp (TabsOf K []) K spLaw) := by
  letI : Tabs := TabsOf K []
  have e := hfa.symm.trans (PySem.W.mg_of X G a_law)
  cases e
  have B : Blt K mg := ⟨PySem.W.mg_none_of X G z_int, PySem.W.mg_none_of X G z_isinstance, PySem.W.mg_none_of X G z_len, PySem.W.mg_none_of X G z_list, PySem.W.mg_none_of X G z_max, PySem.W.mg_none_of X G z_range, PySem.W.mg_none_of X G z_repr, PySem.W.mg_none_of X G z_set, PySem.W.mg_none_of X G z_sorted, PySem.W.mg_none_of X G z_tuple, ⟨_, PySem.W.mg_of X G y_MOST_PLACES⟩⟩
  have XC_NoPaper : XCls K aX_NoPaper aX_R := ⟨⟨_, _, _, _, _, _, _, _, _, _, _, _, _, _, oX_NoPaper⟩, tlX, saX_NoPaper, gaX_NoPaper, gxX_NoPaper, obX_NoPaper, beX_NoPaper⟩
  have XK_NoPaper : XKind K aX_NoPaper := ⟨⟨_, XC_NoPaper⟩, ⟨caX_NoPaper, spX, tkX⟩, _, kcX_NoPaper⟩
  have XC_NoText : XCls K aX_NoText aX_R := ⟨⟨_, _, _, _, _, _, _, _, _, _, _, _, _, _, oX_NoText⟩, tlX, saX_NoText, gaX_NoText, gxX_NoText, obX_NoText, beX_NoText⟩
  have XK_NoText : XKind K aX_NoText := ⟨⟨_, XC_NoText⟩, ⟨caX_NoText, spX, tkX⟩, _, kcX_NoText⟩
  have XC_NoSteps : XCls K aX_NoSteps aX_R := ⟨⟨_, _, _, _, _, _, _, _, _, _, _, _, _, _, oX_NoSteps⟩, tlX, saX_NoSteps, gaX_NoSteps, gxX_NoSteps, obX_NoSteps, beX_NoSteps⟩
  have XK_NoSteps : XKind K aX_NoSteps := ⟨⟨_, XC_NoSteps⟩, ⟨caX_NoSteps, spX, tkX⟩, _, kcX_NoSteps⟩
  have XC_TooMany : XCls K aX_TooMany aX_R := ⟨⟨_, _, _, _, _, _, _, _, _, _, _, _, _, _, oX_TooMany⟩, tlX, saX_TooMany, gaX_TooMany, gxX_TooMany, obX_TooMany, beX_TooMany⟩
  have XK_TooMany : XKind K aX_TooMany := ⟨⟨_, XC_TooMany⟩, ⟨caX_TooMany, spX, tkX⟩, _, kcX_TooMany⟩
  have XC_NoRow : XCls K aX_NoRow aX_R := ⟨⟨_, _, _, _, _, _, _, _, _, _, _, _, _, _, oX_NoRow⟩, tlX, saX_NoRow, gaX_NoRow, gxX_NoRow, obX_NoRow, beX_NoRow⟩
  have XK_NoRow : XKind K aX_NoRow := ⟨⟨_, XC_NoRow⟩, ⟨caX_NoRow, spX, tkX⟩, _, kcX_NoRow⟩
  have FX_TooMany := fun_mk (st := (initS 5)) flX_TooMany fcX_TooMany fkpX_TooMany
  have bX_TooMany := FX_TooMany.binds (ps := ["self", "word"]) fun _ _ _ _ _ _ us hl => match us, hl with | [_, _], _ => rfl
  have F_l_tape := fun_mk (st := s_l_tape) l_l_tape c_l_tape k_l_tape
  have b_l_tape := F_l_tape.binds (ps := ["_law_script"]) fun _ _ _ _ _ _ us hl => match us, hl with | [_], _ => rfl
  have F_l_draw := fun_mk (st := s_l_draw) l_l_draw c_l_draw k_l_draw
  have b_l_draw := F_l_draw.binds (ps := ["_law_tape_here", "_law_many"]) fun _ _ _ _ _ _ us hl => match us, hl with | [_, _], _ => rfl
  have F_l_n := fun_mk (st := s_l_n) l_l_n c_l_n k_l_n
  have b_l_n := F_l_n.binds (ps := ["_law_tape_here", "_law_least_here"]) fun _ _ _ _ _ _ us hl => match us, hl with | [_, _], _ => rfl
  have F_l_size := fun_mk (st := s_l_size) l_l_size c_l_size k_l_size
  have b_l_size := F_l_size.binds (ps := ["_law_bits"]) fun _ _ _ _ _ _ us hl => match us, hl with | [_], _ => rfl
  have F_l_least := fun_mk (st := s_l_least) l_l_least c_l_least k_l_least
  have b_l_least := F_l_least.binds (ps := ["_law_some"]) fun _ _ _ _ _ _ us hl => match us, hl with | [_], _ => rfl
  have F_l_members := fun_mk (st := s_l_members) l_l_members c_l_members k_l_members
  have b_l_members := F_l_members.binds (ps := ["_law_tape_here", "_law_n_here"]) fun _ _ _ _ _ _ us hl => match us, hl with | [_, _], _ => rfl
  have F_l_set := fun_mk (st := s_l_set) l_l_set c_l_set k_l_set
  have b_l_set := F_l_set.binds (ps := ["_law_n_here", "_law_bits"]) fun _ _ _ _ _ _ us hl => match us, hl with | [_, _], _ => rfl
  have F_l_family := fun_mk (st := s_l_family) l_l_family c_l_family k_l_family
  have b_l_family := F_l_family.binds (ps := ["_law_n_here", "_law_some"]) fun _ _ _ _ _ _ us hl => match us, hl with | [_, _], _ => rfl
  have F_places_bounded := fun_mk (st := s_places_bounded) l_places_bounded c_places_bounded k_places_bounded
  have b_places_bounded := F_places_bounded.binds (ps := ["many"]) fun _ _ _ _ _ _ us hl => match us, hl with | [_], _ => rfl
  have F_taken_from := fun_mk (st := s_taken_from) l_taken_from c_taken_from k_taken_from
  have b_taken_from := F_taken_from.binds (ps := ["one", "other"]) fun _ _ _ _ _ _ us hl => match us, hl with | [_, _], _ => rfl
  have F_doubled := fun_mk (st := s_doubled) l_doubled c_doubled k_doubled
  have b_doubled := F_doubled.binds (ps := ["family", "place"]) fun _ _ _ _ _ _ us hl => match us, hl with | [_, _], _ => rfl
  have F_spread := fun_mk (st := s_spread) l_spread c_spread k_spread
  have b_spread := F_spread.binds (ps := ["family", "place"]) fun _ _ _ _ _ _ us hl => match us, hl with | [_, _], _ => rfl
  have F_l_told := fun_mk (st := s_l_told) l_l_told c_l_told k_l_told
  have b_l_told := F_l_told.binds (ps := ["_law_is_doubled", "_law_family_here", "_law_place"]) fun _ _ _ _ _ _ us hl => match us, hl with | [_, _, _], _ => rfl
  have F_l_due := fun_mk (st := s_l_due) l_l_due c_l_due k_l_due
  have b_l_due := F_l_due.binds (ps := ["_law_is_doubled", "_law_n_here", "_law_some", "_law_place"]) fun _ _ _ _ _ _ us hl => match us, hl with | [_, _, _, _], _ => rfl
  have F_law := fun_mk (st := s_law) l_law c_law k_law
  refine ⟨n_tabs, PySem.W.fnOf "law" "law" (defArgs s_law) (defBody s_law) (defScope s_law) .none kV_law dc_law pm_law an_law cd_law ct_law, fun s v => .of_eq rfl, fun base _ _ bm => ?_⟩
  have Y : Exc l.prog w K mg base := ⟨⟨fX_TooMany, aX_TooMany, aX_R, _, ["self", "word"], xi_TooMany FX_TooMany (PySem.W.mg_of X G nX_R) ⟨rdX, fnX, gsX⟩, XC_TooMany, allP_mem ⟨gfX_TooMany_word, trivial⟩, fiX_TooMany, ftyX_TooMany, kpX_TooMany, nX_TooMany, PySem.W.mg_of X G nX_TooMany, bX_TooMany, by decide⟩,
    ⟨aX_R, PySem.W.mg_of X G nX_R, ⟨⟨_, _, _, oX_R⟩, beX_R⟩, allP_mem (P := fun d => ∀ C, PySem.W.nsIn K mainGlobals d = some (some (.ref C)) → PySem.W.mroIn K C (.ref aX_R) = some true) ⟨(fun C h => by rw [nX_NoPaper] at h; cases h; exact mX_NoPaper_RivalError), (fun C h => by rw [nX_NoText] at h; cases h; exact mX_NoText_RivalError), (fun C h => by rw [nX_NoSteps] at h; cases h; exact mX_NoSteps_RivalError), (fun C h => by rw [nX_TooMany] at h; cases h; exact mX_TooMany_RivalError), (fun C h => by rw [nX_NoRow] at h; cases h; exact mX_NoRow_RivalError), trivial⟩⟩,
    ⟨[aX_NoPaper, aX_NoRow, aX_NoSteps, aX_NoText], (.cons (PySem.W.mg_of X G nX_NoPaper) (.cons (PySem.W.mg_of X G nX_NoRow) (.cons (PySem.W.mg_of X G nX_NoSteps) (.cons (PySem.W.mg_of X G nX_NoText) .nil)))), allP_look ⟨⟨aX_NoPaper, nX_NoPaper, XK_NoPaper, haX_NoPaper_NoPaper_NoRow_NoSteps_NoText⟩, ⟨aX_NoText, nX_NoText, XK_NoText, haX_NoText_NoPaper_NoRow_NoSteps_NoText⟩, ⟨aX_NoSteps, nX_NoSteps, XK_NoSteps, haX_NoSteps_NoPaper_NoRow_NoSteps_NoText⟩, ⟨aX_TooMany, nX_TooMany, XK_TooMany, haX_TooMany_NoPaper_NoRow_NoSteps_NoText⟩, ⟨aX_NoRow, nX_NoRow, XK_NoRow, haX_NoRow_NoPaper_NoRow_NoSteps_NoText⟩, trivial⟩⟩,
    ⟨_, PySem.W.mg_of X G nX_TooMany, allP_look ⟨⟨aX_NoPaper, nX_NoPaper, XK_NoPaper, h1X_NoPaper_TooMany⟩, ⟨aX_NoText, nX_NoText, XK_NoText, h1X_NoText_TooMany⟩, ⟨aX_NoSteps, nX_NoSteps, XK_NoSteps, h1X_NoSteps_TooMany⟩, ⟨aX_TooMany, nX_TooMany, XK_TooMany, h1X_TooMany_TooMany⟩, ⟨aX_NoRow, nX_NoRow, XK_NoRow, h1X_NoRow_TooMany⟩, trivial⟩⟩,
    ⟨PySem.W.mg_none_of X G zX_ValueError, allP_look ⟨⟨aX_NoPaper, nX_NoPaper, XK_NoPaper, hbX_NoPaper_ValueError⟩, ⟨aX_NoText, nX_NoText, XK_NoText, hbX_NoText_ValueError⟩, ⟨aX_NoSteps, nX_NoSteps, XK_NoSteps, hbX_NoSteps_ValueError⟩, ⟨aX_TooMany, nX_TooMany, XK_TooMany, hbX_TooMany_ValueError⟩, ⟨aX_NoRow, nX_NoRow, XK_NoRow, hbX_NoRow_ValueError⟩, trivial⟩⟩,
    ⟨allP_mem ⟨⟨aX_NoPaper, aX_R, nX_NoPaper, XC_NoPaper, gfX_NoPaper_word⟩, ⟨aX_NoText, aX_R, nX_NoText, XC_NoText, gfX_NoText_word⟩, ⟨aX_NoSteps, aX_R, nX_NoSteps, XC_NoSteps, gfX_NoSteps_word⟩, ⟨aX_TooMany, aX_R, nX_TooMany, XC_TooMany, gfX_TooMany_word⟩, trivial⟩⟩⟩
  have q_l_tape : FnOk l.prog w K mg base CX0 1 _ _ _ (liftSp K sp_l_tape) := ok_l_tape F_l_tape B  len_l_tape rd_l_tape
  have G_l_tape : Fn l.prog w K mg base 1 "_law_tape" sp_l_tape := fn_mk q_l_tape (PySem.W.mg_of X G a_l_tape) k_l_tape b_l_tape
  have q_l_draw : FnOk l.prog w K mg base CX0 1 _ _ _ (liftSp K sp_l_draw) := ok_l_draw F_l_draw B  len_l_draw rd_l_draw
  have G_l_draw : Fn l.prog w K mg base 1 "_law_draw" sp_l_draw := fn_mk q_l_draw (PySem.W.mg_of X G a_l_draw) k_l_draw b_l_draw
  have q_l_n : FnOk l.prog w K mg base CX0 2 _ _ _ (liftSp K sp_l_n) := ok_l_n F_l_n B G_l_draw len_l_n rd_l_n
  have G_l_n : Fn l.prog w K mg base 2 "_law_n" sp_l_n := fn_mk q_l_n (PySem.W.mg_of X G a_l_n) k_l_n b_l_n
  have q_l_size : FnOk l.prog w K mg base CX0 1 _ _ _ (liftSp K sp_l_size) := ok_l_size F_l_size B  len_l_size rd_l_size
  have G_l_size : Fn l.prog w K mg base 1 "_law_size" sp_l_size := fn_mk q_l_size (PySem.W.mg_of X G a_l_size) k_l_size b_l_size
  have q_l_least : FnOk l.prog w K mg base CX0 1 _ _ _ (liftSp K sp_l_least) := ok_l_least F_l_least B  len_l_least rd_l_least
  have G_l_least : Fn l.prog w K mg base 1 "_law_least" sp_l_least := fn_mk q_l_least (PySem.W.mg_of X G a_l_least) k_l_least b_l_least
  have q_l_members : FnOk l.prog w K mg base CX0 2 _ _ _ (liftSp K sp_l_members) := ok_l_members F_l_members B G_l_draw G_l_size G_l_least len_l_members rd_l_members
  have G_l_members : Fn l.prog w K mg base 2 "_law_members" sp_l_members := fn_mk q_l_members (PySem.W.mg_of X G a_l_members) k_l_members b_l_members
  have q_l_set : FnOk l.prog w K mg base CX0 1 _ _ _ (liftSp K sp_l_set) := ok_l_set F_l_set B  len_l_set rd_l_set
  have G_l_set : Fn l.prog w K mg base 1 "_law_set" sp_l_set := fn_mk q_l_set (PySem.W.mg_of X G a_l_set) k_l_set b_l_set
  have q_l_family : FnOk l.prog w K mg base CX0 2 _ _ _ (liftSp K sp_l_family) := ok_l_family F_l_family B G_l_set len_l_family rd_l_family
  have G_l_family : Fn l.prog w K mg base 2 "_law_family" sp_l_family := fn_mk q_l_family (PySem.W.mg_of X G a_l_family) k_l_family b_l_family
  have q_places_bounded : FnOk l.prog w K mg base (CX1 l.prog w) 3 _ _ _ (liftSpX K sp_places_bounded) := ok_places_bounded F_places_bounded B Y  len_places_bounded rd_places_bounded
  have G_places_bounded : FnX l.prog w K mg base 3 "places_bounded" sp_places_bounded := fnX_mk q_places_bounded (PySem.W.mg_of X G a_places_bounded) k_places_bounded b_places_bounded
  have q_taken_from : FnOk l.prog w K mg base CX0 1 _ _ _ (liftSp K sp_taken_from) := ok_taken_from F_taken_from B  len_taken_from rd_taken_from
  have G_taken_from : Fn l.prog w K mg base 1 "taken_from" sp_taken_from := fn_mk q_taken_from (PySem.W.mg_of X G a_taken_from) k_taken_from b_taken_from
  have q_doubled : FnOk l.prog w K mg base (CX1 l.prog w) 4 _ _ _ (liftSpX K sp_doubled) := ok_doubled F_doubled B G_places_bounded G_taken_from len_doubled rd_doubled
  have G_doubled : FnX l.prog w K mg base 4 "doubled" sp_doubled := fnX_mk q_doubled (PySem.W.mg_of X G a_doubled) k_doubled b_doubled
  have q_spread : FnOk l.prog w K mg base (CX1 l.prog w) 4 _ _ _ (liftSpX K sp_spread) := ok_spread F_spread B G_places_bounded len_spread rd_spread
  have G_spread : FnX l.prog w K mg base 4 "spread" sp_spread := fnX_mk q_spread (PySem.W.mg_of X G a_spread) k_spread b_spread
  have q_l_told : FnOk l.prog w K mg base CX0 5 _ _ _ (liftSp K sp_l_told) := ok_l_told F_l_told B Y G_doubled G_spread len_l_told rd_l_told
  have G_l_told : Fn l.prog w K mg base 5 "_law_told" sp_l_told := fn_mk q_l_told (PySem.W.mg_of X G a_l_told) k_l_told b_l_told
  have q_l_due : FnOk l.prog w K mg base CX0 3 _ _ _ (liftSp K sp_l_due) := ok_l_due F_l_due B G_l_family len_l_due rd_l_due
  have G_l_due : Fn l.prog w K mg base 3 "_law_due" sp_l_due := fn_mk q_l_due (PySem.W.mg_of X G a_l_due) k_l_due b_l_due
  exact ok_law F_law B G_l_tape G_l_draw G_l_n G_l_members G_l_family G_l_told G_l_due len_law rd_law
end k23
open PySem PySem.W PyProof.Rows
set_option maxRecDepth 100000 in
set_option maxHeartbeats 0 in
theorem PySem.Challenge.cw_rivalsets_k23_doubled_and_spread_holds : PySem.Challenge.rw_rivalsets_k23_doubled_and_spread.Holds := by
  w_on; o_law; k_head; (case hw => w_witness2)
  k_fill
  refine M.walk_ofT (l := PySem.Challenge.rw_rivalsets_k23_doubled_and_spread) (n := 63) (k := 6) (x := "_law_script") (names := []) rfl (by decide) rfl ⟨rfl, by decide, by decide, rfl⟩ (fun w h Y => PySem.W.kIn_of Y) ?hnames ?F
  case hnames => exact fun _ z => absurd z (by simp)
  case F =>
    intro w mg fa h KX G hmg
    refine' k23.all_mk KX G hmg ?a_l_tape ?l_l_tape ?c_l_tape ?k_l_tape ?a_l_draw ?l_l_draw ?c_l_draw ?k_l_draw ?a_l_n ?l_l_n ?c_l_n ?k_l_n ?a_l_size ?l_l_size ?c_l_size ?k_l_size ?a_l_least ?l_l_least ?c_l_least ?k_l_least ?a_l_members ?l_l_members ?c_l_members ?k_l_members ?a_l_set ?l_l_set ?c_l_set ?k_l_set ?a_l_family ?l_l_family ?c_l_family ?k_l_family ?a_places_bounded ?l_places_bounded ?c_places_bounded ?k_places_bounded ?a_taken_from ?l_taken_from ?c_taken_from ?k_taken_from ?a_doubled ?l_doubled ?c_doubled ?k_doubled ?a_spread ?l_spread ?c_spread ?k_spread ?a_l_told ?l_l_told ?c_l_told ?k_l_told ?a_l_due ?l_l_due ?c_l_due ?k_l_due ?a_law ?l_law ?c_law ?k_law ?z_int ?z_isinstance ?z_len ?z_list ?z_max ?z_range ?z_repr ?z_set ?z_sorted ?z_tuple ?y_MOST_PLACES ?nX_R ?oX_R ?nX_NoPaper ?oX_NoPaper ?saX_NoPaper ?gaX_NoPaper ?gxX_NoPaper ?caX_NoPaper ?obX_NoPaper ?beX_NoPaper ?kcX_NoPaper ?nX_NoText ?oX_NoText ?saX_NoText ?gaX_NoText ?gxX_NoText ?caX_NoText ?obX_NoText ?beX_NoText ?kcX_NoText ?nX_NoSteps ?oX_NoSteps ?saX_NoSteps ?gaX_NoSteps ?gxX_NoSteps ?caX_NoSteps ?obX_NoSteps ?beX_NoSteps ?kcX_NoSteps ?nX_TooMany ?oX_TooMany ?saX_TooMany ?gaX_TooMany ?gxX_TooMany ?caX_TooMany ?obX_TooMany ?beX_TooMany ?kcX_TooMany ?nX_NoRow ?oX_NoRow ?saX_NoRow ?gaX_NoRow ?gxX_NoRow ?caX_NoRow ?obX_NoRow ?beX_NoRow ?kcX_NoRow ?tlX ?spX ?tkX ?rdX ?fnX ?gsX ?fiX_TooMany ?flX_TooMany ?fcX_TooMany ?fkpX_TooMany ?ftyX_TooMany ?kpX_TooMany ?gfX_TooMany_word ?mX_NoPaper_RivalError ?mX_NoText_RivalError ?mX_NoSteps_RivalError ?mX_TooMany_RivalError ?mX_NoRow_RivalError ?beX_R ?haX_NoPaper_NoPaper_NoRow_NoSteps_NoText ?haX_NoText_NoPaper_NoRow_NoSteps_NoText ?haX_NoSteps_NoPaper_NoRow_NoSteps_NoText ?haX_TooMany_NoPaper_NoRow_NoSteps_NoText ?haX_NoRow_NoPaper_NoRow_NoSteps_NoText ?h1X_NoPaper_TooMany ?h1X_NoText_TooMany ?h1X_NoSteps_TooMany ?h1X_TooMany_TooMany ?h1X_NoRow_TooMany ?zX_ValueError ?hbX_NoPaper_ValueError ?hbX_NoText_ValueError ?hbX_NoSteps_ValueError ?hbX_TooMany_ValueError ?hbX_NoRow_ValueError ?gfX_NoPaper_word ?gfX_NoText_word ?gfX_NoSteps_word ?n_tabs
    (case a_l_tape => k_is)
    (case l_l_tape => k_is)
    (case c_l_tape => k_is)
    (case k_l_tape => k_is)
    (case a_l_draw => k_is)
    (case l_l_draw => k_is)
    (case c_l_draw => k_is)
    (case k_l_draw => k_is)
    (case a_l_n => k_is)
    (case l_l_n => k_is)
    (case c_l_n => k_is)
    (case k_l_n => k_is)
    (case a_l_size => k_is)
    (case l_l_size => k_is)
    (case c_l_size => k_is)
    (case k_l_size => k_is)
    (case a_l_least => k_is)
    (case l_l_least => k_is)
    (case c_l_least => k_is)
    (case k_l_least => k_is)
    (case a_l_members => k_is)
    (case l_l_members => k_is)
    (case c_l_members => k_is)
    (case k_l_members => k_is)
    (case a_l_set => k_is)
    (case l_l_set => k_is)
    (case c_l_set => k_is)
    (case k_l_set => k_is)
    (case a_l_family => k_is)
    (case l_l_family => k_is)
    (case c_l_family => k_is)
    (case k_l_family => k_is)
    (case a_places_bounded => k_is)
    (case l_places_bounded => k_is)
    (case c_places_bounded => k_is)
    (case k_places_bounded => k_is)
    (case a_taken_from => k_is)
    (case l_taken_from => k_is)
    (case c_taken_from => k_is)
    (case k_taken_from => k_is)
    (case a_doubled => k_is)
    (case l_doubled => k_is)
    (case c_doubled => k_is)
    (case k_doubled => k_is)
    (case a_spread => k_is)
    (case l_spread => k_is)
    (case c_spread => k_is)
    (case k_spread => k_is)
    (case a_l_told => k_is)
    (case l_l_told => k_is)
    (case c_l_told => k_is)
    (case k_l_told => k_is)
    (case a_l_due => k_is)
    (case l_l_due => k_is)
    (case c_l_due => k_is)
    (case k_l_due => k_is)
    (case a_law => k_is)
    (case l_law => k_is)
    (case c_law => k_is)
    (case k_law => k_is)
    (case z_int => k_is)
    (case z_isinstance => k_is)
    (case z_len => k_is)
    (case z_list => k_is)
    (case z_max => k_is)
    (case z_range => k_is)
    (case z_repr => k_is)
    (case z_set => k_is)
    (case z_sorted => k_is)
    (case z_tuple => k_is)
    (case y_MOST_PLACES => k_is)
    (case nX_R => k_is)
    (case oX_R => k_is)
    (case nX_NoPaper => k_is)
    (case oX_NoPaper => k_is)
    (case saX_NoPaper => kernel_rfl)
    (case gaX_NoPaper => kernel_rfl)
    (case gxX_NoPaper => kernel_rfl)
    (case caX_NoPaper => kernel_rfl)
    (case obX_NoPaper => kernel_rfl)
    (case beX_NoPaper => kernel_rfl)
    (case kcX_NoPaper => kernel_rfl)
    (case nX_NoText => k_is)
    (case oX_NoText => k_is)
    (case saX_NoText => kernel_rfl)
    (case gaX_NoText => kernel_rfl)
    (case gxX_NoText => kernel_rfl)
    (case caX_NoText => kernel_rfl)
    (case obX_NoText => kernel_rfl)
    (case beX_NoText => kernel_rfl)
    (case kcX_NoText => kernel_rfl)
    (case nX_NoSteps => k_is)
    (case oX_NoSteps => k_is)
    (case saX_NoSteps => kernel_rfl)
    (case gaX_NoSteps => kernel_rfl)
    (case gxX_NoSteps => kernel_rfl)
    (case caX_NoSteps => kernel_rfl)
    (case obX_NoSteps => kernel_rfl)
    (case beX_NoSteps => kernel_rfl)
    (case kcX_NoSteps => kernel_rfl)
    (case nX_TooMany => k_is)
    (case oX_TooMany => k_is)
    (case saX_TooMany => kernel_rfl)
    (case gaX_TooMany => kernel_rfl)
    (case gxX_TooMany => kernel_rfl)
    (case caX_TooMany => kernel_rfl)
    (case obX_TooMany => kernel_rfl)
    (case beX_TooMany => kernel_rfl)
    (case kcX_TooMany => kernel_rfl)
    (case nX_NoRow => k_is)
    (case oX_NoRow => k_is)
    (case saX_NoRow => kernel_rfl)
    (case gaX_NoRow => kernel_rfl)
    (case gxX_NoRow => kernel_rfl)
    (case caX_NoRow => kernel_rfl)
    (case obX_NoRow => kernel_rfl)
    (case beX_NoRow => kernel_rfl)
    (case kcX_NoRow => kernel_rfl)
    (case tlX => kernel_rfl)
    (case spX => kernel_rfl)
    (case tkX => kernel_rfl)
    (case rdX => kernel_rfl)
    (case fnX => kernel_rfl)
    (case gsX => kernel_rfl)
    (case fiX_TooMany => k_is)
    (case flX_TooMany => k_is)
    (case fcX_TooMany => kernel_rfl)
    (case fkpX_TooMany => kernel_rfl)
    (case ftyX_TooMany => kernel_rfl)
    (case kpX_TooMany => kernel_rfl)
    (case gfX_TooMany_word => kernel_rfl)
    (case mX_NoPaper_RivalError => kernel_rfl)
    (case mX_NoText_RivalError => kernel_rfl)
    (case mX_NoSteps_RivalError => kernel_rfl)
    (case mX_TooMany_RivalError => kernel_rfl)
    (case mX_NoRow_RivalError => kernel_rfl)
    (case beX_R => kernel_rfl)
    (case haX_NoPaper_NoPaper_NoRow_NoSteps_NoText => kernel_rfl)
    (case haX_NoText_NoPaper_NoRow_NoSteps_NoText => kernel_rfl)
    (case haX_NoSteps_NoPaper_NoRow_NoSteps_NoText => kernel_rfl)
    (case haX_TooMany_NoPaper_NoRow_NoSteps_NoText => kernel_rfl)
    (case haX_NoRow_NoPaper_NoRow_NoSteps_NoText => kernel_rfl)
    (case h1X_NoPaper_TooMany => kernel_rfl)
    (case h1X_NoText_TooMany => kernel_rfl)
    (case h1X_NoSteps_TooMany => kernel_rfl)
    (case h1X_TooMany_TooMany => kernel_rfl)
    (case h1X_NoRow_TooMany => kernel_rfl)
    (case zX_ValueError => k_is)
    (case hbX_NoPaper_ValueError => kernel_rfl)
    (case hbX_NoText_ValueError => kernel_rfl)
    (case hbX_NoSteps_ValueError => kernel_rfl)
    (case hbX_TooMany_ValueError => kernel_rfl)
    (case hbX_NoRow_ValueError => kernel_rfl)
    (case gfX_NoPaper_word => kernel_rfl)
    (case gfX_NoText_word => kernel_rfl)
    (case gfX_NoSteps_word => kernel_rfl)
    (case n_tabs => kernel_rfl)
#print axioms PySem.Challenge.cw_rivalsets_k23_doubled_and_spread_holds


