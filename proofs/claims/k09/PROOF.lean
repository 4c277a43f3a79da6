import PyProof.Rows.All
import Wide.All
import OpenK.AllK
import Wide.FinOn
import PyProof.EqAt
import PyProof.EqKinds
import PyProof.TupleCall
import KE.BitLaws
import KE.KNestM
import PyProof.GenQ
import PyProof.Rows.TupAdd
import PyProof.Rows.RuleIs
import PyProof.IsiHeapPairs
import PyProof.IsiPairs
import PyProof.IsiNone
import PyProof.ReprRoads
import KE.KRevSl
import KE.KSortKey
import PyProof.Rows.SetFrom
import KE.KDictSum
import PyProof.ListRange
import PyProof.TupleOfSeq
import PyProof.ListMulRoad
import KE.KStar
import KE.KUnpack
import PyProof.Rows.FStr
import PyProof.AutoSeq1
import PyProof.StationsW
import OpenK.KOwn
import PyProof.InstStoreFacts
import OpenK.KCls
import KE.KIsAll
import PyProof.Rows.IntBool
import PyProof.TwoTypesSub
import KE.KStrOpen
import PyProof.Ascii
import PyProof.Rows.ReprOcc
import PySem.Challenge.RW_rivalsets_k09_sets_written_and_read
set_option Elab.async false
set_option linter.all false
set_option maxRecDepth 100000
set_option maxHeartbeats 4000000
/-! THE HAND LAYER, for ints, bools, texts, own classes, lists, tuples, dicts, comprehensions, walks over dicts, enumerate, zip, reversed, texts, calls, loops. Paste it whole ahead of your own text; what your proof does not reach may be deleted. -/
namespace L2
open PySem PySem.Spec PyProof.Rows

/-- a key: an int or a str -/
abbrev Key := Sum Int Str
def keyIs : Key → Value → Bool
  | .inl k, v => Value.isInt k v
  | .inr x, v => Value.isStrOf x v
def keyH (w : World) : Key → Int
  | .inl k => hashInt k
  | .inr x => hashStr w x
theorem keyIs_shape : ∀ {k : Key} {v : Value}, keyIs k v = true → (∃ i t, k = Sum.inl i ∧ v = Value.int i t) ∨ (∃ x t, k = Sum.inr x ∧ v = Value.str x t)
  | .inl i, v, h => by
    obtain ⟨t, e⟩ := Value.isInt_shape (k := i) (v := v) h
    exact .inl ⟨i, t, rfl, e⟩
  | .inr x, v, h => by
    obtain ⟨t, e⟩ := Value.isStrOf_shape (x := x) (v := v) h
    exact .inr ⟨x, t, rfl, e⟩
theorem keyIs_int (i : Int) (t : Tok) : keyIs (.inl i) (.int i t) = true := by simp [keyIs, Value.isInt]
theorem keyIs_str (x : Str) (t : Tok) : keyIs (.inr x) (.str x t) = true := by simp [keyIs, Value.isStrOf]
theorem key_ll (a b : Int) : decide ((Sum.inl a : Key) = Sum.inl b) = (a == b) := by
  by_cases e : a = b
  · subst e; simp
  · have h : ¬ (Sum.inl a : Key) = Sum.inl b := fun q => e (Sum.inl.inj q)
    rw [decide_eq_false h]
    exact (beq_eq_false_iff_ne.mpr e).symm
theorem key_rr (a b : Str) : decide ((Sum.inr a : Key) = Sum.inr b) = decide (a = b) := by
  by_cases e : a = b
  · subst e; simp
  · have h : ¬ (Sum.inr a : Key) = Sum.inr b := fun q => e (Sum.inr.inj q)
    rw [decide_eq_false h, decide_eq_false e]
theorem key_lr (a : Int) (b : Str) : decide ((Sum.inl a : Key) = Sum.inr b) = false := decide_eq_false (fun q => nomatch q)
theorem key_rl (a : Str) (b : Int) : decide ((Sum.inr a : Key) = Sum.inl b) = false := decide_eq_false (fun q => nomatch q)

def mixKind (prog : Program) (w : World) : PySem.KeyKind prog w Key where
  is := keyIs
  hash := keyH w
  inj := fun v a b ha hb => by
    rcases keyIs_shape ha with ⟨i, t, rfl, rfl⟩ | ⟨x, t, rfl, rfl⟩
    · rcases keyIs_shape hb with ⟨j, u, rfl, e⟩ | ⟨y, u, rfl, e⟩
      · injection e with e1 _; rw [e1]
      · exact nomatch e
    · rcases keyIs_shape hb with ⟨j, u, rfl, e⟩ | ⟨y, u, rfl, e⟩
      · exact nomatch e
      · injection e with e1 _; rw [e1]
  byValue := fun k v h => by
    rcases keyIs_shape h with ⟨i, t, rfl, rfl⟩ | ⟨x, t, rfl, rfl⟩ <;> rfl
  pyHash := fun hv h => by
    rcases keyIs_shape hv with ⟨i, t, rfl, rfl⟩ | ⟨x, t, rfl, rfl⟩
    · exact wpAny_pyHash_int h
    · exact wpAny_pyHash_str h
  eqBool := fun hu hv h => by
    rcases keyIs_shape hu with ⟨i, t, rfl, rfl⟩ | ⟨x, t, rfl, rfl⟩
    · rcases keyIs_shape hv with ⟨j, u, rfl, rfl⟩ | ⟨y, u, rfl, rfl⟩
      · rw [key_ll] at h; exact wpAny_eqBool_int h
      · rw [key_lr] at h; exact SeqAt.EqAt.int_str i t y u _ _ _ _ h
    · rcases keyIs_shape hv with ⟨j, u, rfl, rfl⟩ | ⟨y, u, rfl, rfl⟩
      · rw [key_rl] at h; exact SeqAt.EqAt.str_int x t j u _ _ _ _ h
      · rw [key_rr] at h; exact wpAny_eqBool_str h
  «strs» := fun k x t v h => by
    rcases keyIs_shape h with ⟨i, u, rfl, e⟩ | ⟨y, u, rfl, e⟩
    · exact nomatch e
    · injection e with e1 _
      subst e1
      cases v <;> rfl

theorem mixKind_int (prog : Program) (w : World) (i : Int) (t : Tok) : (mixKind prog w).is (.inl i) (.int i t) = true := keyIs_int i t
theorem mixKind_str (prog : Program) (w : World) (x : Str) (t : Tok) : (mixKind prog w).is (.inr x) (.str x t) = true := keyIs_str x t
end L2

namespace L2
open PySem PySem.Spec PyProof.Rows

/-- a value, without the heap -/
inductive V where
  | non | bl (b : Bool) | int (i : Int) | str (x : Str) | byt (b : Array UInt8) | flt (b : UInt64) | ref (a : Addr) | ty (n : String)
  deriving DecidableEq

def RelV : V → Value → Prop
  | .non, u => u = Value.none
  | .bl b, u => u = Value.bool b
  | .int i, u => ∃ t, u = Value.int i t
  | .str x, u => ∃ t, u = Value.str x t
  | .byt b, u => ∃ t, u = Value.bytes b t
  | .flt b, u => ∃ t, u = Value.float b t
  | .ref a, u => u = Value.ref a
  | .ty n, u => u = Value.type n

abbrev Vals : List V → List Value → Prop := Paired RelV
theorem Vals.length {xs : List V} {us : List Value} (r : Vals xs us) : xs.length = us.length := Paired.length r
theorem Vals.get : ∀ {xs : List V} {us : List Value} {i : Nat} {x : V}, Vals xs us → xs[i]? = some x → ∃ u, us[i]? = some u ∧ RelV x u
  | _, _, _, _, .nil, e => by simp at e
  | _, _, 0, _, .cons r _, e => by simp at e; subst e; exact ⟨_, rfl, r⟩
  | _, _, i + 1, x, .cons _ t, e => by
    obtain ⟨u, h1, h2⟩ := Vals.get (i := i) (x := x) t (by simpa using e)
    exact ⟨u, by simpa using h1, h2⟩
theorem Vals.set {x : V} {u : Value} (r : RelV x u) : ∀ {xs : List V} {us : List Value} (i : Nat), Vals xs us → Vals (xs.set i x) (us.set i u)
  | _, _, _, .nil => .nil
  | _, _, 0, .cons _ t => .cons r t
  | _, _, i + 1, .cons q t => .cons q (Vals.set r i t)
theorem Vals.append : ∀ {xs ys : List V} {us ws : List Value}, Vals xs us → Vals ys ws → Vals (xs ++ ys) (us ++ ws)
  | _, _, _, _, .nil, s => s
  | _, _, _, _, .cons r t, s => .cons r (Vals.append t s)
theorem Vals.take : ∀ {xs : List V} {us : List Value} (n : Nat), Vals xs us → Vals (xs.take n) (us.take n)
  | _, _, 0, _ => .nil
  | _, _, _ + 1, .nil => .nil
  | _, _, n + 1, .cons r t => .cons r (Vals.take n t)
theorem Vals.drop : ∀ {xs : List V} {us : List Value} (n : Nat), Vals xs us → Vals (xs.drop n) (us.drop n)
  | _, _, 0, r => r
  | _, _, _ + 1, .nil => .nil
  | _, _, n + 1, .cons _ t => Vals.drop n t
def RelO : Option V → Option Value → Prop
  | some v, some u => RelV v u
  | none, none => True
  | _, _ => False
def KV {κ : Type} : List (κ × V) → List (κ × Value) → Prop := Paired fun (p : κ × V) (q : κ × Value) => p.1 = q.1 ∧ RelV p.2 q.2

/-- a key of a dict (00_mix): an int or a text -/
def kV : Key → V
  | .inl i => .int i
  | .inr x => .str x

/-- what stands at a tracked address -/
inductive HO where
  /-- a list -/
  | lst (xs : List V)
  /-- a tuple (never changes) -/
  | tup (xs : List V)
  /-- a dict whose keys are ints and texts; one whose keys are tuples of ints and texts (the empty one is both) -/
  | dK (kvs : List (Key × V)) | dT (kvs : List (List Key × V))
  /-- a set of ints: its members, its size -/
  | set (S : Int → Bool) (n : Nat)
  /-- an instance of the class at C, its dict at dx, its attributes -/
  | ins (C dx : Addr) (fs : List (Str × V))
  /-- the dict of the instance at x -/
  | own (x : Addr)
  /-- the dict of an exception -/
  | xd (fs : List (Str × V))
  /-- a bound method, f of x -/
  | met (f x : Addr)
  /-- a range object lo, lo + 1, .. below hi -/
  | rng (lo hi : Int)
  /-- a thing that is known to the object (the script; a dict while a loop walks it): read, never written while it is so -/
  | frz (o : Obj) (u : HO)
  /-- a code object's table -/
  | tbl (ps : Array Value)
  /-- any other thing, by what is true of its one object (a def of one's own: SetO a S n := HO.ext fun h => ..) -/
  | ext (φ : Heap → Prop)

abbrev Hp := Addr → Option HO
def upd (H : Hp) (a : Addr) (o : HO) : Hp := fun b => if b = a then some o else H b
theorem upd_same {H : Hp} {a : Addr} {o : HO} : upd H a o a = some o := by unfold upd; rw [if_pos rfl]
theorem upd_ne {H : Hp} {a b : Addr} {o : HO} (h : b ≠ a) : upd H a o b = H b := by unfold upd; rw [if_neg h]
/-- two objects of different content stand apart -/
theorem ne_of {H : Hp} {a b : Addr} {o u : HO} (h : H a = some o) (h' : H b = some u) (d : o ≠ u) : a ≠ b := by
  intro e; subst e; rw [h] at h'; exact d (Option.some.inj h')
theorem ne_of_none {H : Hp} {a b : Addr} {o : HO} (h : H a = some o) (h' : H b = none) : a ≠ b := by
  intro e; subst e; rw [h] at h'; cases h'

/-- the object has no dict of its own -/
def ND (h : Heap) (a : Addr) : Prop := ∃ o, h.get? a = some o ∧ o.dict = none
theorem ND.new (h : Heap) (o : Obj) (e : o.dict = none) (f : o.isFreed = false := by rfl) : ND (h.push o) h.objs.size := ⟨o, Heap.get?_push_size _ f, e⟩
section
variable (P : Program) (w : World)
def ObjOk (H : Hp) (h : Heap) (a : Addr) : HO → Prop
  | .lst xs => xs.length ≤ sizeLine ∧ ∃ (its : List Value) (n : Nat), Vals xs its ∧ h.get? a = some { cls := .type "list", data := .seq its.toArray n }
  | .tup xs => xs.length ≤ sizeLine ∧ ∃ its : List Value, Vals xs its ∧ IsTup h a its.toArray ∧ ND h a
  | .dK kvs => kvs.length ≤ sizeLine ∧ (a == sysModules) = false ∧ ∃ vs, KV kvs vs ∧ h.DictOf (mixKind P w) a vs
  | .dT kvs => kvs.length ≤ sizeLine ∧ (a == sysModules) = false ∧ ∃ xs : List (List Key × Addr × Value),
      Paired (fun (p : List Key × V) (q : List Key × Addr × Value) => p.1 = q.1 ∧ H q.2.1 = some (.tup (p.1.map kV)) ∧ RelV p.2 q.2.2) kvs xs ∧
      ∃ o es ep, h.get? a = some o ∧ o.ExactDict ∧ o.data = .dict es ep ∧ es.toList = xs.map (entryOfKey (tupleKind (mixKind P w))) ∧ (xs.map (·.1)).Nodup
  | .set S n => h.SetOf (intKind P w) a S n
  | .ins C dx fs => H dx = some (.own a) ∧ fs.length ≤ 1000 ∧ dx ≠ a ∧ h.get? a = some (PySem.W.instObj C dx) ∧
      ∃ mA, h.Ns1 dx mA ∧ (∀ f, RelO (fs.lookup f) (mA f)) ∧ PySem.Within mA (fs.map (·.1))
  | .own _ => ∃ o, h.get? a = some o
  | .xd fs => ∃ mA, h.Ns1 a mA ∧ ∀ f, RelO (fs.lookup f) (mA f)
  | .rng lo hi => ∃ t u v, h.get? a = some { cls := .type "range", data := .fields #[.int lo t, .int hi u, .int 1 v] }
  | .frz o u => h.get? a = some o ∧ ObjOk H h a u
  | .tbl ps => h.get? a = some { cls := .none, data := .fields ps }
  | .met f x => h.get? a = some (PySem.W.methodObj (.ref f) (.ref x))
  | .ext φ => φ h ∧ (∃ o, h.get? a = some o) ∧ ∀ h1 h2 : Heap, φ h1 → (∀ o, h1.get? a = some o → h2.get? a = some o) → φ h2
/-- the abstract heap is held -/
def HOk (H : Hp) (h : Heap) : Prop := ∀ a o, H a = some o → ObjOk P w H h a o
end

section
variable {P : Program} {w : World} {H H' : Hp} {h h' : Heap} {a : Addr} {o : HO}
theorem ObjOk.lt (x : ObjOk P w H h a o) : a < h.objs.size := by
  cases o with
  | lst xs => obtain ⟨_, _, _, _, e⟩ := x; exact Heap.lt_size e
  | tup xs => obtain ⟨_, _, _, p, _⟩ := x; exact p.lt
  | dK kvs => obtain ⟨_, _, _, _, o, _, _, e, _⟩ := x; exact Heap.lt_size e
  | dT kvs => obtain ⟨_, _, _, _, o, _, _, e, _⟩ := x; exact Heap.lt_size e
  | set S n => obtain ⟨o, _, _, _, e, _⟩ := x; exact Heap.lt_size e
  | ins C dx fs => obtain ⟨_, _, _, e, _⟩ := x; exact Heap.lt_size e
  | own y => obtain ⟨_, e⟩ := x; exact Heap.lt_size e
  | xd fs => obtain ⟨_, ⟨_, _, _, e, _⟩, _⟩ := x; exact Heap.lt_size e
  | rng lo hi => obtain ⟨_, _, _, e⟩ := x; exact Heap.lt_size e
  | frz ob u => obtain ⟨e, _⟩ := x; exact Heap.lt_size e
  | tbl ps => exact Heap.lt_size (show h.get? a = some _ from x)
  | met f y => exact Heap.lt_size (show h.get? a = some _ from x)
  | ext φ => obtain ⟨_, ⟨_, e⟩, _⟩ := x; exact Heap.lt_size e
theorem Paired.mapP {α β : Type} {F G : α → β → Prop} : ∀ {l₁ : List α} {l₂ : List β}, Paired F l₁ l₂ → (∀ a b, F a b → G a b) → Paired G l₁ l₂
  | _, _, .nil, _ => .nil
  | _, _, .cons r t, f => .cons (f _ _ r) (Paired.mapP t f)
/-- what an object's description leans on: its own object, its own dict, the tuples -/
theorem ObjOk.stay (x : ObjOk P w H h a o) (k : ∀ b u, (b = a ∨ H b = some (.own a)) → h.get? b = some u → h'.get? b = some u)
    (ho : ∀ b, H b = some (.own a) → H' b = some (.own a)) (ht : ∀ b xs, H b = some (.tup xs) → H' b = some (.tup xs)) : ObjOk P w H' h' a o := by
  induction o with
  | lst xs => obtain ⟨z, its, n, r, e⟩ := x; exact ⟨z, its, n, r, k _ _ (.inl rfl) e⟩
  | tup xs => obtain ⟨z, its, r, ⟨ob, e, c⟩, ob2, e2, c2⟩ := x; exact ⟨z, its, r, ⟨ob, k _ _ (.inl rfl) e, c⟩, ob2, k _ _ (.inl rfl) e2, c2⟩
  | dK kvs => obtain ⟨z, y, vs, r, ob, es, ep, e, c⟩ := x; exact ⟨z, y, vs, r, ob, es, ep, k _ _ (.inl rfl) e, c⟩
  | dT kvs =>
    obtain ⟨z, y, xs, r, ob, es, ep, e, c⟩ := x
    exact ⟨z, y, xs, Paired.mapP r fun p q z => ⟨z.1, ht _ _ z.2.1, z.2.2⟩, ob, es, ep, k _ _ (.inl rfl) e, c⟩
  | set S n => obtain ⟨ob, es, ep, t, e, c⟩ := x; exact ⟨ob, es, ep, t, k _ _ (.inl rfl) e, c⟩
  | ins C dx fs =>
    obtain ⟨d, z, ne, e, mA, ⟨od, es, ep, e2, c⟩, r⟩ := x
    exact ⟨ho _ d, z, ne, k _ _ (.inl rfl) e, mA, ⟨od, es, ep, k _ _ (.inr d) e2, c⟩, r⟩
  | own y => obtain ⟨ob, e⟩ := x; exact ⟨ob, k _ _ (.inl rfl) e⟩
  | xd fs => obtain ⟨mA, ⟨od, es, ep, e, c⟩, r⟩ := x; exact ⟨mA, ⟨od, es, ep, k _ _ (.inl rfl) e, c⟩, r⟩
  | rng lo hi => obtain ⟨t, u, v, e⟩ := x; exact ⟨t, u, v, k _ _ (.inl rfl) e⟩
  | frz ob u ih => obtain ⟨e, q⟩ := x; exact ⟨k _ _ (.inl rfl) e, ih q⟩
  | tbl ps =>
    have e : h.get? a = some { cls := .none, data := .fields ps } := x
    show h'.get? a = some { cls := .none, data := .fields ps }
    exact k a _ (.inl rfl) e
  | met f y =>
    have e : h.get? a = some (PySem.W.methodObj (.ref f) (.ref y)) := x
    show h'.get? a = some (PySem.W.methodObj (.ref f) (.ref y))
    exact k a _ (.inl rfl) e
  | ext φ => obtain ⟨p, ⟨o, e⟩, st⟩ := x; exact ⟨st _ _ p fun o q => k _ _ (.inl rfl) q, ⟨o, k _ _ (.inl rfl) e⟩, st⟩
theorem HOk.lt (x : HOk P w H h) (e : H a = some o) : a < h.objs.size := (x a o e).lt
theorem HOk.fresh (x : HOk P w H h) (e : h.objs.size ≤ a) : H a = none := by
  cases q : H a with
  | none => rfl
  | some u => exact absurd (Nat.lt_of_lt_of_le (x.lt q) e) (Nat.lt_irrefl _)
/-- every object of the heap is kept -/
theorem HOk.kept (x : HOk P w H h) (k : ∀ b u, h.get? b = some u → h'.get? b = some u) : HOk P w H h' := fun a o e =>
  (x a o e).stay (fun b u _ q => k b u q) (fun _ q => q) fun _ _ q => q
/-- a new object is laid and tracked -/
theorem HOk.laid (x : HOk P w H h) (k : ∀ b u, h.get? b = some u → h'.get? b = some u) (hp : h.objs.size ≤ a) (new : ObjOk P w (upd H a o) h' a o) : HOk P w (upd H a o) h' := fun b u e => by
  have hn := x.fresh hp
  by_cases hb : b = a
  · subst hb; rw [upd_same] at e; cases e; exact new
  · rw [upd_ne hb] at e
    exact (x b u e).stay (fun c v _ q => k c v q) (fun c q => by rw [upd_ne (ne_of_none q hn)]; exact q) fun c xs q => by rw [upd_ne (ne_of_none q hn)]; exact q
end

/-- what may be read as u: it is u, or a known u -/
def Rd (H : Hp) (a : Addr) (u : HO) : Prop := H a = some u ∨ ∃ o, H a = some (.frz o u)
theorem Rd.of {H : Hp} {a : Addr} {u : HO} (h : H a = some u) : Rd H a u := .inl h
theorem Rd.ok {P : Program} {w : World} {H : Hp} {h : Heap} {a : Addr} {u : HO} (r : Rd H a u) (x : HOk P w H h) : ObjOk P w H h a u := by
  rcases r with r | ⟨o, r⟩
  · exact x a u r
  · obtain ⟨_, q⟩ := x a _ r
    exact q
/-- what may be written -/
def Mut : Option HO → Prop
  | some (.lst _) => True
  | some (.dK _) => True
  | some (.dT _) => True
  | some (.set _ _) => True
  | some (.ins _ _ _) => True
  | some (.ext _) => True
  | _ => False
section
variable {P : Program} {w : World} {H : Hp} {h h' : Heap} {x e : Addr} {o' : HO}
/-- the object at e is changed: x itself, or the dict of the instance x -/
theorem HOk.write (ok : HOk P w H h) (mu : Mut (H x)) (he : e = x ∨ H e = some (.own x)) (k : ∀ b u, b ≠ e → h.get? b = some u → h'.get? b = some u) (heo : ∃ u, h'.get? e = some u)
    (new : ObjOk P w (upd H x o') h' x o') : HOk P w (upd H x o') h' := fun b u q => by
  have nown : ∀ c y, H c = some (.own y) → c ≠ x := fun c y r z => by subst z; rw [r] at mu; exact mu
  have ntup : ∀ c xs, H c = some (.tup xs) → c ≠ x := fun c xs r z => by subst z; rw [r] at mu; exact mu
  by_cases hb : b = x
  · subst hb; rw [upd_same] at q; cases q; exact new
  · rw [upd_ne hb] at q
    by_cases hbe : b = e
    · have q' : H b = some (.own x) := by
        rcases he with z | z
        · exact absurd (hbe.trans z) hb
        · rw [hbe]; exact z
      rw [q] at q'; cases q'
      obtain ⟨v, hv⟩ := heo
      exact ⟨v, by rw [hbe]; exact hv⟩
    · refine (ok b u q).stay (fun c v hc r => k c v ?_ r) (fun c r => by rw [upd_ne (nown c b r)]; exact r) fun c xs r => by rw [upd_ne (ntup c xs r)]; exact r
      rcases hc with rfl | hc
      · exact hbe
      · rintro rfl
        rcases he with z | z
        · exact nown c b hc z
        · rw [hc] at z; cases z; exact hb rfl
end

/-! ### kept unless tracked; of the frames at fs (the callers') the slots may change (an exception that passes writes there); of the records at ex (iterators) nothing is said -/
structure Un (fs ex : List Addr) (H H' : Hp) (h h' : Heap) : Prop where
  keep : ∀ b o, h.get? b = some o → H b = none → b ∉ fs → b ∉ ex → h'.get? b = some o
  slot : ∀ b o, h.get? b = some o → H b = none → b ∈ fs → b ∉ ex → ∃ sl, h'.get? b = some { o with slots := sl }
  free : ∀ b o, h.get? b = some o → H b = none → b ∉ ex → H' b = none
  there : ∀ b o, h.get? b = some o → b ∉ ex → ∃ o', h'.get? b = some o'
  tups : ∀ b xs, H b = some (.tup xs) → H' b = some (.tup xs)
  frzs : ∀ b o u, H b = some (.frz o u) → H' b = some (.frz o u)
  tbls : ∀ b ps, H b = some (.tbl ps) → ∃ more, H' b = some (.tbl (ps ++ more))
section
variable {fs fs' ex ex' : List Addr} {H H1 H2 : Hp} {h h1 h2 h' : Heap} {a x e : Addr} {o : HO}
theorem Un.any (u : Un fs ex H H1 h h1) {b : Addr} {ob : Obj} (q : h.get? b = some ob) (n : H b = none) (hx : b ∉ ex) : ∃ sl, h1.get? b = some { ob with slots := sl } := by
  by_cases hb : b ∈ fs
  · exact u.slot b ob q n hb hx
  · exact ⟨ob.slots, u.keep b ob q n hb hx⟩
theorem Un.trans (a : Un fs ex H H1 h h1) (b : Un fs ex H1 H2 h1 h2) : Un fs ex H H2 h h2 where
  keep := fun c ob q n hc hx => b.keep c ob (a.keep c ob q n hc hx) (a.free c ob q n hx) hc hx
  slot := fun c ob q n hc hx => by
    obtain ⟨sl, e1⟩ := a.slot c ob q n hc hx
    obtain ⟨sl', e2⟩ := b.slot c _ e1 (a.free c ob q n hx) hc hx
    exact ⟨sl', e2⟩
  free := fun c ob q n hx => by
    obtain ⟨o', e1⟩ := a.there c ob q hx
    exact b.free c o' e1 (a.free c ob q n hx) hx
  there := fun c ob q hx => by
    obtain ⟨o', e1⟩ := a.there c ob q hx
    exact b.there c o' e1 hx
  tups := fun c xs q => b.tups c xs (a.tups c xs q)
  frzs := fun c ob xs q => b.frzs c ob xs (a.frzs c ob xs q)
  tbls := fun c ps q => by
    obtain ⟨m1, e1⟩ := a.tbls c ps q
    obtain ⟨m2, e2⟩ := b.tbls c _ e1
    exact ⟨m1 ++ m2, by rw [e2, Array.append_assoc]⟩
theorem Un.kept (k : ∀ b u, h.get? b = some u → h'.get? b = some u) : Un fs ex H H h h' :=
  ⟨fun b ob q _ _ _ => k b ob q, fun b ob q _ _ _ => ⟨ob.slots, k b ob q⟩, fun _ _ _ n _ => n, fun b ob q _ => ⟨ob, k b ob q⟩, fun _ _ q => q, fun _ _ _ q => q, fun _ ps q => ⟨#[], by rw [q]; simp⟩⟩
theorem Un.refl : Un fs ex H H h h := Un.kept fun _ _ q => q
theorem Un.laid (k : ∀ b u, h.get? b = some u → h'.get? b = some u) (hp : h.objs.size ≤ a) (hn : H a = none) : Un fs ex H (upd H a o) h h' where
  keep := fun b u q _ _ _ => k b u q
  slot := fun b u q _ _ _ => ⟨u.slots, k b u q⟩
  free := fun b u q n _ => by rw [upd_ne (Nat.ne_of_lt (Nat.lt_of_lt_of_le (Heap.lt_size q) hp))]; exact n
  there := fun b u q _ => ⟨u, k b u q⟩
  tups := fun b xs q => by rw [upd_ne (ne_of_none q hn)]; exact q
  frzs := fun b u xs q => by rw [upd_ne (ne_of_none q hn)]; exact q
  tbls := fun b ps q => ⟨#[], by rw [upd_ne (ne_of_none q hn), q]; simp⟩
theorem Un.write (mu : Mut (H x)) (he : e = x ∨ H e = some (.own x)) (k : ∀ b u, b ≠ e → h.get? b = some u → h'.get? b = some u) (heo : ∃ u, h'.get? e = some u) : Un fs ex H (upd H x o) h h' := by
  have hx : ∀ b, H b = none → b ≠ x := fun b n z => by subst z; rw [n] at mu; exact mu
  have hb : ∀ b, H b = none → b ≠ e := fun b n z => by
    subst z
    rcases he with r | r
    · exact hx b n r
    · rw [n] at r; cases r
  have hm : ∀ b u, H b = some u → ¬ Mut (some u) → b ≠ x := fun b u q nm z => by subst z; rw [q] at mu; exact nm mu
  refine ⟨fun b u q n _ _ => k b u (hb b n) q, fun b u q n _ _ => ⟨u.slots, k b u (hb b n) q⟩, fun b u q n _ => by rw [upd_ne (hx b n)]; exact n, fun b u q _ => ?_,
    fun b xs q => by rw [upd_ne (hm b _ q fun z => z)]; exact q, fun b u xs q => by rw [upd_ne (hm b _ q fun z => z)]; exact q, fun b ps q => ⟨#[], by rw [upd_ne (hm b _ q fun z => z), q]; simp⟩⟩
  by_cases hbe : b = e
  · subst hbe; exact heo
  · exact ⟨u, k b u hbe q⟩
theorem Un.mono (u : Un fs ex H H1 h h1) (hs : ∀ b ∈ fs, b ∈ fs') (hx : ∀ b ∈ ex, b ∈ ex') : Un fs' ex' H H1 h h1 :=
  ⟨fun b ob q n hb he => u.keep b ob q n (fun z => hb (hs b z)) fun z => he (hx b z), fun _ _ q n _ he => u.any q n fun z => he (hx _ z), fun b ob q n he => u.free b ob q n fun z => he (hx b z), fun b ob q he => u.there b ob q fun z => he (hx b z), u.tups, u.frzs, u.tbls⟩
end

/-! ### the heap without what is tracked -/
def trk (h : Heap) (H : Hp) : List Addr := (List.range h.objs.size).filter fun a => (H a).isSome
def hidT (h : Heap) (H : Hp) : Heap := PySem.W.hideAll h (trk h H)
theorem hidT_size (h : Heap) (H : Hp) : (hidT h H).objs.size = h.objs.size := PySem.W.hideAll_size _ _
theorem hidT_get {h : Heap} {H : Hp} {b : Addr} {o : Obj} (e : h.get? b = some o) (n : H b = none) : (hidT h H).get? b = some o :=
  PySem.W.hideAll_get _ e fun hm => by
    have q : (H b).isSome = true := (List.mem_filter.mp hm).2
    rw [n] at q; simp at q
theorem of_hidT {h : Heap} {H : Hp} {b : Addr} {o : Obj} (e : (hidT h H).get? b = some o) : h.get? b = some o ∧ H b = none := by
  have e' : h.get? b = some o := PySem.W.of_hideAll (trk h H) e
  refine ⟨e', ?_⟩
  cases q : H b with
  | none => rfl
  | some x =>
    have hm : b ∈ trk h H := List.mem_filter.mpr ⟨List.mem_range.mpr (Heap.lt_size e'), by simp [q]⟩
    have z : (hidT h H).get? b = none := PySem.W.hideAll_none (trk h H) hm
    rw [z] at e; cases e

/-! ### OpenK's ledger, filled with every new object but one -/
def allNews (g h : Heap) (L : Addr) : List (Addr × Obj) := (List.range h.objs.size).filterMap fun a => if a = L ∨ (g.get? a).isSome = true then none else (h.get? a).map fun o => (a, o)
def rest (g h : Heap) (L d : Addr) : List (Addr × Obj) := (allNews g h L).filter fun p => decide (p.1 ≠ d)
end L2

namespace L2
open PySem PySem.Spec PyProof.Rows

/-- the module's facts, over the base: the heap at the law's entry without what is tracked there -/
structure Mod (K : PySem.W.Frag) (mg : Str → Option Value) (base : Heap) : Prop where
  kin : K.In base
  glob : base.Ns mainGlobals mg
  blt : ∃ mb, base.Ns builtinsNs mb ∧ ∀ x : Str, x ≠ "__name__" → mb x = bootBuiltins x
  nolimit : base.NoLimit

/-- the context: a def's body (or a comprehension's block) running. base: fixed through the whole law; s₀, H₀: the entry; outer: the frames whose slots others may change (a def's callers); stack: all frames that run;
   ex: iterators that were made ahead of the entry and are walked here (a comprehension's); fn: the names whose cells were made at the entry (a def: all; a comprehension's block: its own); calm: not within an except suite; pn: pins that every state bears; xe: what is wanted of an exception that leaves the code -/
structure Cx where
  prog : Program
  w : World
  K : PySem.W.Frag
  mg : Str → Option Value
  base : Heap
  A : Around
  N : List Str
  s_0 : Shared
  H_0 : Hp
  env : Env
  outer : List Env
  stack : List Env
  ex : List Addr
  fn : Str → Bool
  calm : Bool
  pn : List (Addr × Obj)
  xe : Value → Shared → Prop
/-- the callers' frames -/
def frs (l : List Env) : List Addr := l.filterMap (·.frame)
abbrev Cx.fs (X : Cx) : List Addr := frs X.outer

def Vis (sc : Scope) (x : Str) : Prop := sc.names.lookup x = some .local ∨ sc.names.lookup x = some .cell ∨ sc.names.lookup x = some .free
def Loc (sc : Scope) (x : Str) : Prop := sc.names.lookup x = some .local ∨ sc.names.lookup x = some .cell
def Look (env : Env) (h : Heap) (m : Str → Option Value) (x : Str) (u : Value) : Prop :=
  (env.kindOf x = some .local ∧ m x = some u) ∨ ((env.kindOf x = some .cell ∨ env.kindOf x = some .free) ∧ ∃ c, env.cells.lookup x = some c ∧ h.IsCell c (some u))

structure Cx.Ok (X : Cx) : Prop where
  mod : Mod X.K X.mg X.base
  kind : X.env.scope.kind = .function
  glob : X.env.globals = mainGlobals
  blt : X.env.builtins = builtinsNs
  above : X.s_0.heap.objs.size ≤ X.env.locals
  inj : ∀ x y c, X.env.cells.lookup x = some c → X.env.cells.lookup y = some c → x = y
  has : ∀ x, (X.env.kindOf x = some .cell ∨ X.env.kindOf x = some .free) → ∃ c, X.env.cells.lookup x = some c
  cab : ∀ x c, X.fn x = true → X.env.cells.lookup x = some c → X.s_0.heap.objs.size ≤ c
  hd : X.calm = true → X.A.handled = none
  frames : X.A.frames = some X.stack
  stk : X.stack = X.outer ∨ (X.stack = X.env :: X.outer ∧ X.env.frame = some X.env.locals)
  exf : ∀ b ∈ X.ex, b ≠ X.env.locals ∧ ∀ x c, X.env.cells.lookup x = some c → c ≠ b
  bs : ∀ b o, X.base.get? b = some o → X.s_0.heap.get? b = some o ∧ X.H_0 b = none
  bsz : X.base.objs.size ≤ X.s_0.heap.objs.size
  noex : ∀ b o, X.base.get? b = some o → b ∉ X.ex
  exfs : ∀ b ∈ X.ex, b ∉ X.fs
  funs : X.s_0.heap.FunFrames X.base X.outer
  frf : ∀ b ∈ X.fs, X.H_0 b = none

structure Inv (X : Cx) (pins : List (Addr × Obj)) (σ : List (Option V)) (H : Hp) (s : Shared) : Prop where
  ok : X.Ok
  os : s.os = X.s_0.os
  bare : AllBare s.gens
  base : Un X.fs X.ex X.H_0 H X.s_0.heap s.heap
  loc : ∃ m, s.heap.Ns X.env.locals m ∧ ∀ (i : Nat) (x : Str) (v : V), X.N[i]? = some x → σ[i]? = some (some v) → Vis X.env.scope x → ∃ u, RelV v u ∧ Look X.env s.heap m x u
  cell : ∀ x c, X.env.cells.lookup x = some c → ∃ v, s.heap.IsCell c v
  free : H X.env.locals = none
  freeC : ∀ x c, X.env.cells.lookup x = some c → H c = none
  pin : ∀ p ∈ X.pn ++ pins, s.heap.get? p.1 = some p.2 ∧ H p.1 = none ∧ p.1 ≠ X.env.locals ∧ p.1 ∉ X.fs ∧ ∀ v, p.2.data ≠ .cell v
  hok : HOk X.prog X.w H s.heap
  len : σ.length = X.N.length

section
variable {X : Cx} {pins : List (Addr × Obj)} {σ : List (Option V)} {H H' : Hp} {s : Shared} {h' : Heap}

theorem Cx.Ok.nofr (ok : X.Ok) {b : Addr} {o : Obj} (e : X.base.get? b = some o) : b ∉ X.fs := fun hb => by
  have := (ok.funs.mem hb).1
  rw [e] at this; cases this
theorem Inv.bs (I : Inv X pins σ H s) : ∀ b o, X.base.get? b = some o → s.heap.get? b = some o ∧ H b = none := fun b o e =>
  ⟨I.base.keep b o (I.ok.bs b o e).1 (I.ok.bs b o e).2 (I.ok.nofr e) (I.ok.noex b o e), I.base.free b o (I.ok.bs b o e).1 (I.ok.bs b o e).2 (I.ok.noex b o e)⟩
theorem Inv.bk (I : Inv X pins σ H s) : ∀ b o, X.base.get? b = some o → s.heap.get? b = some o := fun b o e => (I.bs b o e).1
theorem Inv.mod (I : Inv X pins σ H s) : Mod X.K X.mg X.base := I.ok.mod
theorem Inv.kIn (I : Inv X pins σ H s) : X.K.In s.heap := I.ok.mod.kin.keeps I.bk
theorem Inv.nolimit (I : Inv X pins σ H s) : s.heap.NoLimit := I.ok.mod.nolimit.keeps I.bk
/-- the frame over the base: for OpenK's rules (K.In X.base is I.mod.kin) -/
theorem Inv.fr (I : Inv X pins σ H s) : ∃ m, Fr X.base X.env.locals s.heap m :=
  let ⟨m, hn, _⟩ := I.loc
  ⟨m, hn, I.bk, Nat.le_trans I.ok.bsz I.ok.above⟩
theorem Inv.lt (I : Inv X pins σ H s) : X.env.locals < s.heap.objs.size := let ⟨_, hn, _⟩ := I.loc; hn.lt
theorem Inv.sz (I : Inv X pins σ H s) : X.s_0.heap.objs.size ≤ s.heap.objs.size := Nat.le_trans I.ok.above (Nat.le_of_lt I.lt)
theorem Inv.nofs (I : Inv X pins σ H s) {a : Addr} (h : s.heap.objs.size ≤ a) : a ∉ X.fs := fun hb => by
  obtain ⟨_, o, ho, _⟩ := I.ok.funs.mem hb
  exact absurd (Nat.lt_of_lt_of_le (Heap.lt_size ho) (Nat.le_trans I.sz h)) (Nat.lt_irrefl _)
theorem Inv.cne (I : Inv X pins σ H s) : ∀ x c, X.env.cells.lookup x = some c → c ≠ X.env.locals := fun x c e z => by
  obtain ⟨v, o, ho, hd⟩ := I.cell x c e
  obtain ⟨m, ⟨o', es, ep, ho', hd', _⟩, _⟩ := I.loc
  rw [z, ho'] at ho; cases ho; rw [hd'] at hd; cases hd
theorem Inv.funs (I : Inv X pins σ H s) : s.heap.FunFrames X.base X.outer := by
  have all : ∀ (l : List Env), (∀ b ∈ frs l, b ∈ X.fs) → X.s_0.heap.FunFrames X.base l → s.heap.FunFrames X.base l := by
    intro l
    induction l with
    | nil => intro _ _; trivial
    | cons env r ih =>
      intro hs hl
      obtain ⟨hk, ⟨L, o, hf, hn, ho, hd⟩, hr⟩ := hl
      have hL : L ∈ X.fs := hs L (by unfold frs; rw [List.filterMap_cons, hf]; exact List.mem_cons_self)
      obtain ⟨sl, e⟩ := I.base.slot L o ho (I.ok.frf L hL) hL fun z => I.ok.exfs L z hL
      exact ⟨hk, ⟨L, _, hf, hn, e, hd⟩, ih (fun b hb => hs b (by unfold frs; rw [List.filterMap_cons, hf]; exact List.mem_cons_of_mem _ hb)) hr⟩
  exact all X.outer (fun _ hb => hb) I.ok.funs

/-- the frames that run, for a call -/
theorem Inv.stack (I : Inv X pins σ H s) : s.heap.FunFrames X.base X.stack := by
  rcases I.ok.stk with e | ⟨e, hf⟩
  · rw [e]; exact I.funs
  · rw [e]
    obtain ⟨m, hn, _⟩ := I.loc
    refine .cons (by rw [I.ok.kind]; decide) hf hn ?_ I.funs
    exact Heap.get?_none_of_le (Nat.le_trans I.ok.bsz I.ok.above)
theorem Inv.stkSub (I : Inv X pins σ H s) : ∀ b ∈ frs X.stack, b ∈ X.env.locals :: X.fs := fun b hb => by
  rcases I.ok.stk with e | ⟨e, hf⟩
  · rw [e] at hb; exact List.mem_cons_of_mem _ hb
  · rw [e] at hb
    unfold frs at hb
    rw [List.filterMap_cons, hf] at hb
    exact hb
theorem Inv.stkFree (I : Inv X pins σ H s) : ∀ b ∈ frs X.stack, H b = none := fun b hb => by
  rcases List.mem_cons.mp (I.stkSub b hb) with e | hb
  · rw [e]; exact I.free
  · obtain ⟨_, o, ho, _⟩ := I.ok.funs.mem hb
    exact I.base.free b o ho (I.ok.frf b hb) fun z => I.ok.exfs b z hb

/-- THE STEP: the untracked objects but the frame and the records at ch are kept (the callers' frames up to slots), the frame's map is kept, the new abstract heap is held -/
theorem Inv.step {g' : Array GenState} {t' : Nat} {d' : Drawn} {ch : List Addr} (I : Inv X pins σ H s)
    (hch : ∀ b ∈ ch, (b ∈ X.ex ∨ X.s_0.heap.objs.size ≤ b) ∧ b ≠ X.env.locals ∧ (∀ x c, X.env.cells.lookup x = some c → c ≠ b) ∧ ∀ p ∈ X.pn ++ pins, p.1 ≠ b)
    (keep : ∀ b o, b ≠ X.env.locals → b ∉ X.fs → b ∉ ch → s.heap.get? b = some o → H b = none → h'.get? b = some o)
    (slot : ∀ b o, b ≠ X.env.locals → b ∈ X.fs → b ∉ ch → s.heap.get? b = some o → H b = none → ∃ sl, h'.get? b = some { o with slots := sl }) (free : ∀ b o, b ∉ ch → s.heap.get? b = some o → H b = none → H' b = none)
    (there : ∀ b o, b ∉ ch → s.heap.get? b = some o → ∃ o', h'.get? b = some o')
    (tups : ∀ b xs, H b = some (.tup xs) → H' b = some (.tup xs)) (frzs : ∀ b o u, H b = some (.frz o u) → H' b = some (.frz o u)) (tbls : ∀ b ps, H b = some (.tbl ps) → ∃ more, H' b = some (.tbl (ps ++ more)))
    (ns : ∀ m, s.heap.Ns X.env.locals m → h'.Ns X.env.locals m) (hok : HOk X.prog X.w H' h') (hg : AllBare g') :
    Inv X pins σ H' { s with heap := h', gens := g', drawn := d', toks := t' } := by
  have neL : ∀ b o, X.s_0.heap.get? b = some o → b ≠ X.env.locals := fun b o e => Nat.ne_of_lt (Nat.lt_of_lt_of_le (Heap.lt_size e) I.ok.above)
  have neC : ∀ b o, X.s_0.heap.get? b = some o → b ∉ X.ex → b ∉ ch := fun b o e hx hb => by
    rcases (hch b hb).1 with z | z
    · exact hx z
    · exact absurd (Nat.lt_of_lt_of_le (Heap.lt_size e) z) (Nat.lt_irrefl _)
  have cellK : ∀ x c, X.env.cells.lookup x = some c → ∀ v, s.heap.IsCell c v → h'.IsCell c v := fun x c e v ⟨o, ho, hd⟩ => by
    have nch : c ∉ ch := fun z => (hch c z).2.2.1 x c e rfl
    by_cases hc : c ∈ X.fs
    · obtain ⟨sl, q⟩ := slot c o (I.cne x c e) hc nch ho (I.freeC x c e)
      exact ⟨_, q, hd⟩
    · exact ⟨o, keep c o (I.cne x c e) hc nch ho (I.freeC x c e), hd⟩
  refine ⟨I.ok, I.os, hg, ⟨fun b o e n hb hx => ?_, fun b o e n hb hx => ?_, fun b o e n hx => ?_, fun b o e hx => ?_, fun b xs e => tups b xs (I.base.tups b xs e), fun b o xs e => frzs b o xs (I.base.frzs b o xs e), fun b ps e => ?_⟩, ?_, fun x c e => ?_, ?_, fun x c e => ?_, fun p hp => ?_, hok, I.len⟩
  · exact keep b o (neL b o e) hb (neC b o e hx) (I.base.keep b o e n hb hx) (I.base.free b o e n hx)
  · obtain ⟨sl, e1⟩ := I.base.slot b o e n hb hx
    obtain ⟨sl', e2⟩ := slot b _ (neL b o e) hb (neC b o e hx) e1 (I.base.free b o e n hx)
    exact ⟨sl', e2⟩
  · obtain ⟨o', e1⟩ := I.base.there b o e hx
    exact free b o' (neC b o e hx) e1 (I.base.free b o e n hx)
  · obtain ⟨o', e1⟩ := I.base.there b o e hx
    exact there b o' (neC b o e hx) e1
  · obtain ⟨m1, e1⟩ := I.base.tbls b ps e
    obtain ⟨m2, e2⟩ := tbls b _ e1
    exact ⟨m1 ++ m2, by rw [e2, Array.append_assoc]⟩
  · obtain ⟨m, hn, hl⟩ := I.loc
    refine ⟨m, ns m hn, fun i x v e1 e2 e3 => ?_⟩
    obtain ⟨u, r, l⟩ := hl i x v e1 e2 e3
    refine ⟨u, r, ?_⟩
    rcases l with l | ⟨k, c, e, z⟩
    · exact .inl l
    · exact .inr ⟨k, c, e, cellK x c e _ z⟩
  · obtain ⟨v, z⟩ := I.cell x c e
    exact ⟨v, cellK x c e v z⟩
  · obtain ⟨m, ⟨o, _, _, ho, _⟩, _⟩ := I.loc
    exact free _ o (fun z => (hch _ z).2.1 rfl) ho I.free
  · obtain ⟨v, o, ho, hd⟩ := I.cell x c e
    exact free c o (fun z => (hch c z).2.2.1 x c e rfl) ho (I.freeC x c e)
  · obtain ⟨e, n, ne, nf, d⟩ := I.pin p hp
    have nch : p.1 ∉ ch := fun z => (hch p.1 z).2.2.2 p hp rfl
    exact ⟨keep p.1 p.2 ne nf nch e n, free p.1 p.2 nch e n, ne, nf, d⟩
/-- .. where the frame's own object is kept too -/
theorem Inv.un {t' : Nat} (I : Inv X pins σ H s) (u : Un X.fs [] H H' s.heap h') (hok : HOk X.prog X.w H' h') : Inv X pins σ H' { s with heap := h', toks := t' } := by
  obtain ⟨m, ⟨o, es, ep, ho, r⟩, _⟩ := id I.loc
  obtain ⟨sl, hL⟩ := u.any ho I.free (by simp)
  exact I.step (g' := s.gens) (d' := s.drawn) (ch := []) (fun _ z => nomatch z) (fun b o _ hb _ e n => u.keep b o e n hb (by simp)) (fun b o _ hb _ e n => u.slot b o e n hb (by simp)) (fun b o _ e n => u.free b o e n (by simp)) (fun b o _ e => u.there b o e (by simp)) u.tups u.frzs u.tbls (fun m' hm => by
    obtain ⟨o', es', ep', ho', r'⟩ := hm
    rw [ho] at ho'; cases ho'
    exact ⟨_, es', ep', hL, r'⟩) hok I.bare
/-- behind a call (or a comprehension's block): the slots of this frame may have changed too, the records at ch may have turned -/
theorem Inv.call {g' : Array GenState} {t' : Nat} {d' : Drawn} {ch : List Addr} (I : Inv X pins σ H s) (u : Un (frs X.stack) ch H H' s.heap h') (hok : HOk X.prog X.w H' h') (hg : AllBare g')
    (hch : ∀ b ∈ ch, (b ∈ X.ex ∨ X.s_0.heap.objs.size ≤ b) ∧ b ≠ X.env.locals ∧ (∀ x c, X.env.cells.lookup x = some c → c ≠ b) ∧ ∀ p ∈ X.pn ++ pins, p.1 ≠ b) :
    Inv X pins σ H' { s with heap := h', gens := g', drawn := d', toks := t' } := by
  obtain ⟨m, ⟨o, es, ep, ho, r⟩, _⟩ := id I.loc
  obtain ⟨sl, hL⟩ := u.any ho I.free fun z => (hch _ z).2.1 rfl
  exact I.step (ch := ch) hch (fun b o hL hb hc e n => u.keep b o e n (fun z => (List.mem_cons.mp (I.stkSub b z)).elim hL hb) hc) (fun b o _ _ hc e n => u.any e n hc) (fun b o hc e n => u.free b o e n hc) (fun b o hc e => u.there b o e hc) u.tups u.frzs u.tbls (fun m' hm => by
    obtain ⟨o', es', ep', ho', r'⟩ := hm
    rw [ho] at ho'; cases ho'
    exact ⟨_, es', ep', hL, r'⟩) hok hg
/-- an untracked record of ours (an iterator) has turned -/
theorem Inv.turned {t' : Nat} {it : Addr} (I : Inv X pins σ H s) (k : ∀ b o, b ≠ it → s.heap.get? b = some o → h'.get? b = some o) (hn : H it = none) (hL : it ≠ X.env.locals)
    (h1 : it ∈ X.ex ∨ X.s_0.heap.objs.size ≤ it) (h2 : ∀ x c, X.env.cells.lookup x = some c → c ≠ it) (h3 : ∀ p ∈ X.pn ++ pins, p.1 ≠ it) : Inv X pins σ H { s with heap := h', toks := t' } := by
  have nit : ∀ b u, H b = some u → b ≠ it := fun b u e z => by rw [z, hn] at e; cases e
  refine I.step (g' := s.gens) (d' := s.drawn) (ch := [it]) (fun b hb => ?_) (fun b o _ _ hc e _ => k b o (fun z => hc (by simp [z])) e) (fun b o _ _ hc e _ => ⟨o.slots, k b o (fun z => hc (by simp [z])) e⟩) (fun _ _ _ _ n => n)
    (fun b o hc e => ⟨o, k b o (fun z => hc (by simp [z])) e⟩) (fun _ _ e => e) (fun _ _ _ e => e) (fun b ps e => ⟨#[], by rw [e]; simp⟩) (fun m hm => ?_) (fun b u e => ?_) I.bare
  · have e : b = it := by simpa using hb
    subst e
    exact ⟨h1, hL, h2, h3⟩
  · obtain ⟨o, es, ep, ho, r⟩ := hm
    exact ⟨o, es, ep, k _ o (Ne.symm hL) ho, r⟩
  · refine (I.hok b u e).stay (fun c v hc q => k c v ?_ q) (fun _ q => q) fun _ _ q => q
    rcases hc with z | z
    · rw [z]; exact nit b u e
    · exact nit c _ z
theorem Inv.tok (I : Inv X pins σ H s) (t : Nat) : Inv X pins σ H { s with toks := t } := I.un (h' := s.heap) (t' := t) Un.refl I.hok
/-- all objects kept -/
theorem Inv.kept {t' : Nat} (I : Inv X pins σ H s) (k : ∀ b u, s.heap.get? b = some u → h'.get? b = some u) : Inv X pins σ H { s with heap := h', toks := t' } := I.un (Un.kept k) (I.hok.kept k)
/-- a new object laid and tracked -/
theorem Inv.laid {a : Addr} {o : HO} {t' : Nat} (I : Inv X pins σ H s) (k : ∀ b u, s.heap.get? b = some u → h'.get? b = some u) (hp : s.heap.objs.size ≤ a) (new : ObjOk X.prog X.w (upd H a o) h' a o) :
    Inv X pins σ (upd H a o) { s with heap := h', toks := t' } := I.un (Un.laid k hp (I.hok.fresh hp)) (I.hok.laid k hp new)
/-- an object written -/
theorem Inv.write {x e : Addr} {o : HO} {t' : Nat} (I : Inv X pins σ H s) (mu : Mut (H x)) (he : e = x ∨ H e = some (.own x)) (k : ∀ b u, b ≠ e → s.heap.get? b = some u → h'.get? b = some u) (heo : ∃ u, h'.get? e = some u)
    (new : ObjOk X.prog X.w (upd H x o) h' x o) : Inv X pins σ (upd H x o) { s with heap := h', toks := t' } := I.un (Un.write mu he k heo) (I.hok.write mu he k heo new)
/-- forgetting slots, pins -/
theorem Inv.weak {σ' : List (Option V)} (I : Inv X pins σ H s) (hl : σ'.length = σ.length) (w : ∀ (i : Nat) v, σ'[i]? = some (some v) → σ[i]? = some (some v)) : Inv X pins σ' H s :=
  ⟨I.ok, I.os, I.bare, I.base, let ⟨m, hn, hl'⟩ := I.loc; ⟨m, hn, fun i x v e1 e2 e3 => hl' i x v e1 (w i v e2) e3⟩, I.cell, I.free, I.freeC, I.pin, I.hok, hl.trans I.len⟩
theorem Inv.pins_of {pins' : List (Addr × Obj)} (I : Inv X pins σ H s) (h : ∀ p ∈ pins', s.heap.get? p.1 = some p.2 ∧ H p.1 = none ∧ p.1 ≠ X.env.locals ∧ p.1 ∉ X.fs ∧ ∀ v, p.2.data ≠ .cell v) : Inv X pins' σ H s :=
  ⟨I.ok, I.os, I.bare, I.base, I.loc, I.cell, I.free, I.freeC, fun p hp => (List.mem_append.mp hp).elim (fun z => I.pin p (List.mem_append_left _ z)) (h p), I.hok, I.len⟩

theorem nodup_ix {N : List Str} (hN : N.Nodup) {i j : Nat} {x : Str} (a : N[i]? = some x) (b : N[j]? = some x) : i = j := by
  obtain ⟨h1, e1⟩ := List.getElem?_eq_some_iff.mp a
  obtain ⟨h2, e2⟩ := List.getElem?_eq_some_iff.mp b
  exact (List.getElem_inj hN).mp (e1.trans e2.symm)

/-- a name is stored; what changed -/
theorem store_ok2 {M : Model} {A : Around} {E : Value → Shared → Prop} {i : Nat} {x : Str} {v : V} {u : Value} {Q : Unit → Shared → Prop} (I : Inv X pins σ H s) (hN : X.N.Nodup) (hi : X.N[i]? = some x) (hx : Loc X.env.scope x) (r : RelV v u)
    (h : ∀ s', Inv X pins (σ.set i (some v)) H s' → (∃ a, Heap.SameBut a s.heap s'.heap ∧ (a = X.env.locals ∨ X.env.cells.lookup x = some a)) → Q () s') (hf : X.fn x = true ∨ X.env.scope.names.lookup x = some .local := by first | exact .inl rfl | exact .inr rfl | assumption) : wpAny M A (storeName X.env x u) Q E s := by
  obtain ⟨m, hn, hl⟩ := id I.loc
  have hcls : (X.env.scope.kind == .class || (X.env.scope.kind == .module && X.env.locals != X.env.globals)) = false := by rw [I.ok.kind]; rfl
  have hiσ : i < σ.length := by rw [I.len]; exact (List.getElem?_eq_some_iff.mp hi).1
  have cne := I.cne
  have tracked : ∀ {a : Addr} {h' : Heap}, (∃ o, s.heap.get? a = some o ∧ H a = none) → Heap.SameBut a s.heap h' → HOk X.prog X.w H h' := fun {a h'} ha hs b ob e => by
    obtain ⟨_, _, hfree⟩ := ha
    refine (I.hok b ob e).stay (fun c w' hc q => (hs.2 c ?_).trans q) (fun _ q => q) fun _ _ q => q
    rintro rfl
    rcases hc with rfl | hc
    · rw [hfree] at e; cases e
    · rw [hfree] at hc; cases hc
  rcases hx with hk | hk
  · refine wpAny_storeName_local hk hn (fun h' hn' hs => ?_) hcls
    obtain ⟨oL, _, _, hoL, _⟩ := id hn
    refine h _ ⟨I.ok, I.os, I.bare, ⟨fun b o e n hb hx => ?_, fun b o e n hb hx => ?_, I.base.free, fun b o e hx => ?_, I.base.tups, I.base.frzs, I.base.tbls⟩, ⟨_, hn', fun j y v' e1 e2 e3 => ?_⟩, fun y c e => ?_, I.free, I.freeC, fun p hp => ?_, tracked ⟨oL, hoL, I.free⟩ hs, by simpa using I.len⟩ ⟨_, hs, .inl rfl⟩
    · exact (hs.2 b (Nat.ne_of_lt (Nat.lt_of_lt_of_le (Heap.lt_size e) I.ok.above))).trans (I.base.keep b o e n hb hx)
    · obtain ⟨sl, e1⟩ := I.base.slot b o e n hb hx
      exact ⟨sl, (hs.2 b (Nat.ne_of_lt (Nat.lt_of_lt_of_le (Heap.lt_size e) I.ok.above))).trans e1⟩
    · obtain ⟨o', e1⟩ := I.base.there b o e hx
      exact ⟨o', (hs.2 b (Nat.ne_of_lt (Nat.lt_of_lt_of_le (Heap.lt_size e) I.ok.above))).trans e1⟩
    · by_cases hj : j = i
      · subst hj
        rw [hi] at e1; cases e1
        rw [List.getElem?_set_self hiσ] at e2
        cases e2
        exact ⟨u, r, .inl ⟨hk, by simp⟩⟩
      · rw [List.getElem?_set_ne (Ne.symm hj)] at e2
        obtain ⟨u', r', q⟩ := hl j y v' e1 e2 e3
        refine ⟨u', r', ?_⟩
        rcases q with ⟨k, e⟩ | ⟨k, c, e, z⟩
        · refine .inl ⟨k, ?_⟩
          have : y ≠ x := fun e => hj (nodup_ix hN e1 (e ▸ hi))
          simp [this, e]
        · exact .inr ⟨k, c, e, z.sameBut hs (cne y c e)⟩
    · obtain ⟨w', z⟩ := I.cell y c e
      exact ⟨w', z.sameBut hs (cne y c e)⟩
    · obtain ⟨e, n, ne, nf, d⟩ := I.pin p hp
      exact ⟨(hs.2 p.1 ne).trans e, n, ne, nf, d⟩
  · have hfn : X.fn x = true := by
      rcases hf with z | z
      · exact z
      · rw [z] at hk; cases hk
    obtain ⟨c, hc⟩ := I.ok.has x (.inl hk)
    obtain ⟨w', z⟩ := I.cell x c hc
    refine wpAny_storeName_cell I.ok.kind hk hc z (fun h' hc' hs => ?_)
    obtain ⟨oc, hoc, hocd⟩ := id z
    refine h { s with heap := h' } ⟨I.ok, I.os, I.bare, ⟨fun b o e n hb hx => ?_, fun b o e n hb hx => ?_, I.base.free, fun b o e hx => ?_, I.base.tups, I.base.frzs, I.base.tbls⟩, ⟨m, hn.sameBut hs (Ne.symm (cne x c hc)), fun j y v' e1 e2 e3 => ?_⟩, fun y c' e => ?_, I.free, I.freeC, fun p hp => ?_, tracked ⟨oc, hoc, I.freeC x c hc⟩ hs, by simpa using I.len⟩ ⟨c, hs, .inr hc⟩
    · exact (hs.2 b (Nat.ne_of_lt (Nat.lt_of_lt_of_le (Heap.lt_size e) (I.ok.cab x c hfn hc)))).trans (I.base.keep b o e n hb hx)
    · obtain ⟨sl, e1⟩ := I.base.slot b o e n hb hx
      exact ⟨sl, (hs.2 b (Nat.ne_of_lt (Nat.lt_of_lt_of_le (Heap.lt_size e) (I.ok.cab x c hfn hc)))).trans e1⟩
    · obtain ⟨o', e1⟩ := I.base.there b o e hx
      exact ⟨o', (hs.2 b (Nat.ne_of_lt (Nat.lt_of_lt_of_le (Heap.lt_size e) (I.ok.cab x c hfn hc)))).trans e1⟩
    · by_cases hj : j = i
      · subst hj
        rw [hi] at e1; cases e1
        rw [List.getElem?_set_self hiσ] at e2
        cases e2
        exact ⟨u, r, .inr ⟨.inl hk, c, hc, hc'⟩⟩
      · rw [List.getElem?_set_ne (Ne.symm hj)] at e2
        obtain ⟨u', r', q⟩ := hl j y v' e1 e2 e3
        refine ⟨u', r', ?_⟩
        rcases q with q | ⟨k, c', e, z'⟩
        · exact .inl q
        · refine .inr ⟨k, c', e, z'.sameBut hs ?_⟩
          rintro rfl
          exact hj (nodup_ix hN e1 (I.ok.inj _ _ _ e hc ▸ hi))
    · by_cases hcc : c' = c
      · subst hcc; exact ⟨_, hc'⟩
      · obtain ⟨w2, z2⟩ := I.cell y c' e
        exact ⟨w2, z2.sameBut hs hcc⟩
    · obtain ⟨e, n, ne, nf, d⟩ := I.pin p hp
      refine ⟨(hs.2 p.1 ?_).trans e, n, ne, nf, d⟩
      intro q
      rw [q, hoc] at e
      have q' : oc = p.2 := Option.some.inj e
      exact d w' (by rw [← q']; exact hocd)
theorem store_ok {M : Model} {A : Around} {E : Value → Shared → Prop} {i : Nat} {x : Str} {v : V} {u : Value} {Q : Unit → Shared → Prop} (I : Inv X pins σ H s) (hN : X.N.Nodup) (hi : X.N[i]? = some x) (hx : Loc X.env.scope x) (r : RelV v u)
    (h : ∀ s', Inv X pins (σ.set i (some v)) H s' → Q () s') (hf : X.fn x = true ∨ X.env.scope.names.lookup x = some .local := by first | exact .inl rfl | exact .inr rfl | assumption) : wpAny M A (storeName X.env x u) Q E s :=
  store_ok2 I hN hi hx r (fun s' I' _ => h s' I') hf
/-- behind a call or a block, the state as it is -/
theorem Inv.call' {s' : Shared} {ch : List Addr} (I : Inv X pins σ H s) (ho : s'.os = s.os) (u : Un (frs X.stack) ch H H' s.heap s'.heap) (hok : HOk X.prog X.w H' s'.heap) (hg : AllBare s'.gens)
    (hch : ∀ b ∈ ch, (b ∈ X.ex ∨ X.s_0.heap.objs.size ≤ b) ∧ b ≠ X.env.locals ∧ (∀ x c, X.env.cells.lookup x = some c → c ≠ b) ∧ ∀ p ∈ X.pn ++ pins, p.1 ≠ b) : Inv X pins σ H' s' := by
  obtain ⟨h', g', d', t', o'⟩ := s'
  have e : o' = s.os := ho
  subst e
  exact I.call (g' := g') (t' := t') (d' := d') u hok hg hch
end

/-! ### the judgements -/
/-- an exception: its class, its own dict's address (where it has one), the abstract heap behind it -/
abbrev XK := Value → Option Addr → Hp → Prop
abbrev St := List (Option V)
abbrev VK := V → Hp → Prop
/-- an expression's reading; a test's; an argument list's -/
abbrev TE := St → Hp → VK → Prop
abbrev TT := St → Hp → (Bool → Hp → Prop) → Prop
abbrev TA := St → Hp → (List V → Hp → Prop) → Prop
/-- what is wanted behind a statement -/
structure Ends where
  nx : St → Hp → Prop
  rt : VK
  bk : St → Hp → Prop := fun _ _ => False
  ct : St → Hp → Prop := fun _ _ => False
abbrev TS := Ends → St → Hp → Prop

def EP (X : Cx) (pins : List (Addr × Obj)) (σ : St) (Q : VK) (u : Value) (s' : Shared) : Prop := ∃ v H', Inv X pins σ H' s' ∧ RelV v u ∧ Q v H'
def TP (X : Cx) (pins : List (Addr × Obj)) (σ : St) (Q : Bool → Hp → Prop) (b : Bool) (s' : Shared) : Prop := ∃ H', Inv X pins σ H' s' ∧ Q b H'
def AP (X : Cx) (pins : List (Addr × Obj)) (σ : St) (Q : List V → Hp → Prop) (us : List Value) (s' : Shared) : Prop := ∃ vs H', Inv X pins σ H' s' ∧ Vals vs us ∧ Q vs H'
def SP (X : Cx) (pins : List (Addr × Obj)) (D : Ends) (f : Flow) (s' : Shared) : Prop :=
  match f with
  | .next => ∃ σ' H', Inv X pins σ' H' s' ∧ D.nx σ' H'
  | .brk => ∃ σ' H', Inv X pins σ' H' s' ∧ D.bk σ' H'
  | .cont => ∃ σ' H', Inv X pins σ' H' s' ∧ D.ct σ' H'
  | .ret u => ∃ v σ' H', Inv X pins σ' H' s' ∧ RelV v u ∧ D.rt v H'

def PE (X : Cx) (e : Expr) (t : TE) : Prop :=
  ∀ (pins : List (Addr × Obj)) (s : Shared) (σ : St) (H : Hp) (Q : VK), Inv X pins σ H s → t σ H Q → wpAny (model X.prog X.w) X.A (eval e X.env) (EP X pins σ Q) X.xe s
def PT (X : Cx) (e : Expr) (t : TT) : Prop :=
  ∀ (pins : List (Addr × Obj)) (s : Shared) (σ : St) (H : Hp) (Q : Bool → Hp → Prop), Inv X pins σ H s → t σ H Q → wpAny (model X.prog X.w) X.A (isTrue e X.env (eval e X.env)) (TP X pins σ Q) X.xe s
/-- a test whatever its 'whole' is (and, or) -/
def PW (X : Cx) (e : Expr) (t : TT) : Prop :=
  ∀ (whole : Sem Value) (pins : List (Addr × Obj)) (s : Shared) (σ : St) (H : Hp) (Q : Bool → Hp → Prop), Inv X pins σ H s → t σ H Q → wpAny (model X.prog X.w) X.A (isTrue e X.env whole) (TP X pins σ Q) X.xe s
theorem PW.pt {X : Cx} {e : Expr} {t : TT} (h : PW X e t) : PT X e t := h _
/-- an argument list (no star), from the left -/
def PA (X : Cx) (es : List Expr) (t : TA) : Prop :=
  ∀ (pos : Pos) (pins : List (Addr × Obj)) (s : Shared) (σ : St) (H : Hp) (Q : List V → Hp → Prop), Inv X pins σ H s → t σ H Q → wpAny (model X.prog X.w) X.A (spliced (backTo pos (starEach es X.env))) (AP X pins σ Q) X.xe s
def PS (X : Cx) (st : Stmt) (t : TS) : Prop :=
  ∀ (pins : List (Addr × Obj)) (s : Shared) (σ : St) (H : Hp) (D : Ends), Inv X pins σ H s → t D σ H → wpAny (model X.prog X.w) X.A (exec st X.env) (SP X pins D) X.xe s
def PSs (X : Cx) (st : List Stmt) (t : TS) : Prop :=
  ∀ (pins : List (Addr × Obj)) (s : Shared) (σ : St) (H : Hp) (D : Ends), Inv X pins σ H s → t D σ H → wpAny (model X.prog X.w) X.A (execs st X.env) (SP X pins D) X.xe s
/-- weaken the end -/
theorem thn {α : Type} {t : Sem α} {Q Q' : α → Shared → Prop} {M : Model} {A : Around} {E : Value → Shared → Prop} {s : Shared} (h : wpAny M A t Q E s) (hQ : ∀ a s, Q a s → Q' a s) : wpAny M A t Q' E s := wpAny_mono h hQ fun _ _ x => x
end L2

namespace L2
open PySem PySem.Spec PyProof.Rows
section
variable {X : Cx}

/-- two expressions in a row -/
theorem bin {a b : Expr} {ta tb : TE} (ha : PE X a ta) (hb : PE X b tb) {pins : List (Addr × Obj)} {s : Shared} {σ : St} {H : Hp} {R : V → V → Hp → Prop} (I : Inv X pins σ H s) (h : ta σ H fun x H1 => tb σ H1 fun y H2 => R x y H2)
    {α : Type} {Q : α → Shared → Prop} {f : Value → Value → Sem α}
    (hf : ∀ v u s2 x y H2, Inv X pins σ H2 s2 → RelV x v → RelV y u → R x y H2 → wpAny (model X.prog X.w) X.A (f v u) Q X.xe s2) :
    wpAny (model X.prog X.w) X.A (eval a X.env) (fun v s₁ => wpAny (model X.prog X.w) X.A (eval b X.env) (fun u s₂ => wpAny (model X.prog X.w) X.A (f v u) Q X.xe s₂) X.xe s₁) X.xe s := by
  refine thn (ha pins s σ H _ I h) fun v s1 ⟨x, H1, I1, r1, q1⟩ => ?_
  refine thn (hb pins s1 σ H1 _ I1 q1) fun u s2 ⟨y, H2, I2, r2, q2⟩ => ?_
  exact hf v u s2 x y H2 I2 r1 r2 q2

/-! ### names and constants -/
def tVar (i : Nat) : TE := fun σ H Q => ∃ v, σ[i]? = some (some v) ∧ Q v H
def tC (v : V) : TE := fun _ H Q => Q v H
theorem pe_var {i : Nat} {x : Str} {pos : Pos} (hN : X.N[i]? = some x) (hv : Vis X.env.scope x) (hd : (x == ("__debug__" : Str)) = false := by decide) (hcd : (x == ("__classdict__" : Str)) = false := by decide) : PE X (.Name x pos) (tVar i) := by
  intro pins s σ H Q I h
  obtain ⟨v, e, h⟩ := h
  obtain ⟨m, hn, hl⟩ := I.loc
  obtain ⟨u, r, l⟩ := hl i x v hN e hv
  have fin : EP X pins σ Q u s := ⟨v, H, I, r, h⟩
  rcases l with ⟨hk, hm⟩ | ⟨hk, c, hc, hcell⟩
  · exact wpAny_Name (wpAny_loadName_local I.ok.kind hk hn hm fin) hd
  · rcases hk with hk | hk
    · exact wpAny_Name (wpAny_loadName_cell I.ok.kind hk hc hcell fin) hd
    · exact wpAny_Name (wpAny_loadName_free I.ok.kind hk hc hcell fin hcd) hd
theorem pe_int {i j pos} : PE X (.Constant (.int i) j pos) (tC (.int i)) := fun _ _ _ H _ I h => wpAny_Constant_int ⟨.int i, H, I.tok _, ⟨_, rfl⟩, h⟩
theorem pe_bl {b j pos} : PE X (.Constant (.bool b) j pos) (tC (.bl b)) := fun _ _ _ H _ I h => Constant_bool ⟨.bl b, H, I, rfl, h⟩
theorem pe_non {j pos} : PE X (.Constant .none j pos) (tC .non) := fun _ _ _ H _ I h => Constant_none ⟨.non, H, I, rfl, h⟩
theorem pe_str {x j pos} : PE X (.Constant (.str x) j pos) (tC (.str x)) := fun _ _ _ H _ I h => Calls.Constant_str ⟨.str x, H, I.tok _, ⟨_, rfl⟩, h⟩

/-- a global name of the def -/
def Gl (X : Cx) (x : Str) : Prop := X.env.kindOf x = some .globalImplicit
theorem ld_glob {E : Value → Shared → Prop} {pins : List (Addr × Obj)} {s : Shared} {σ : St} {H : Hp} {x : Str} {u : Value} {pos : Pos} {Q : Value → Shared → Prop} (I : Inv X pins σ H s) (hg : Gl X x) (hm : X.mg x = some u) (h : Q u s)
    (hd : (x == ("__debug__" : Str)) = false := by decide) : wpAny (model X.prog X.w) X.A (eval (.Name x pos) X.env) Q E s :=
  Calls.Name_function_global I.ok.kind hg (Calls.loadGlobal_global (by rw [I.ok.glob]; exact I.mod.glob.keeps I.bk) hm h) hd
theorem ld_blt {E : Value → Shared → Prop} {pins : List (Addr × Obj)} {s : Shared} {σ : St} {H : Hp} {x : Str} {u : Value} {pos : Pos} {Q : Value → Shared → Prop} (I : Inv X pins σ H s) (hg : Gl X x) (hm : X.mg x = none) (hv : bootBuiltins x = some u) (h : Q u s)
    (hn : x ≠ "__name__" := by decide) (hd : (x == ("__debug__" : Str)) = false := by decide) : wpAny (model X.prog X.w) X.A (eval (.Name x pos) X.env) Q E s := by
  obtain ⟨mb, h1, h2⟩ := I.mod.blt
  exact Calls.Name_function_global I.ok.kind hg (Calls.loadGlobal_builtin (by rw [I.ok.glob]; exact I.mod.glob.keeps I.bk) hm (by rw [I.ok.blt]; exact h1.keeps I.bk) ((h2 x hn).trans hv) h) hd
/-- a module's constant, a class, a function, as a value -/
theorem pe_glob {x : Str} {v : V} {u : Value} {pos : Pos} (hg : Gl X x) (hm : X.mg x = some u) (r : RelV v u) (hd : (x == ("__debug__" : Str)) = false := by decide) : PE X (.Name x pos) (tC v) :=
  fun _ _ _ H _ I h => ld_glob I hg hm ⟨v, H, I, r, h⟩ hd
theorem pe_bltn {x : Str} {v : V} {u : Value} {pos : Pos} (hg : Gl X x) (hm : X.mg x = none) (hv : bootBuiltins x = some u) (r : RelV v u) (hn : x ≠ "__name__" := by decide) (hd : (x == ("__debug__" : Str)) = false := by decide) : PE X (.Name x pos) (tC v) :=
  fun _ _ _ H _ I h => ld_blt I hg hm hv ⟨v, H, I, r, h⟩ hn hd

/-! ### arithmetic -/
variable {a b : Expr} {ta tb : TE} {pos : Pos}
/-! ### comparisons -/
/-! ### and, or, not -/
variable {tA tB' : TT} {rest : List Expr}
def tAnd (t u : TT) : TT := fun σ H Q => t σ H fun c H1 => if c = true then u σ H1 Q else Q false H1
def tOr (t u : TT) : TT := fun σ H Q => t σ H fun c H1 => if c = true then Q true H1 else u σ H1 Q
def tNot (t : TT) : TT := fun σ H Q => t σ H fun c H1 => Q (!c) H1
theorem pw_and1 (ha : PT X a tA) : PW X (.BoolOp .And [a] pos) tA := by
  intro wh pins s σ H Q I h
  refine isTrue_and (thn (ha pins s σ H Q I h) fun c s1 e => ?_)
  cases c with
  | true => exact isTrue_and_nil e
  | false => exact e
theorem pw_or1 (ha : PT X a tA) : PW X (.BoolOp .Or [a] pos) tA := by
  intro wh pins s σ H Q I h
  refine isTrue_or (thn (ha pins s σ H Q I h) fun c s1 e => ?_)
  cases c with
  | false => exact isTrue_or_nil e
  | true => exact e
theorem pw_and (ha : PT X a tA) (hb : PW X (.BoolOp .And (b :: rest) pos) tB') : PW X (.BoolOp .And (a :: b :: rest) pos) (tAnd tA tB') := by
  intro wh pins s σ H Q I h
  refine isTrue_and (thn (ha pins s σ H _ I h) fun c s1 ⟨H1, I1, q1⟩ => ?_)
  cases c with
  | true => exact hb wh pins s1 σ H1 Q I1 q1
  | false => exact ⟨H1, I1, q1⟩
theorem pw_or (ha : PT X a tA) (hb : PW X (.BoolOp .Or (b :: rest) pos) tB') : PW X (.BoolOp .Or (a :: b :: rest) pos) (tOr tA tB') := by
  intro wh pins s σ H Q I h
  refine isTrue_or (thn (ha pins s σ H _ I h) fun c s1 ⟨H1, I1, q1⟩ => ?_)
  cases c with
  | true => exact ⟨H1, I1, q1⟩
  | false => exact hb wh pins s1 σ H1 Q I1 q1
theorem pt_not (ha : PT X a tA) : PT X (.UnaryOp .Not a pos) (tNot tA) := by
  intro pins s σ H Q I h
  exact isTrue_not (ha pins s σ H (fun c H1 => Q (!c) H1) I h)
/-- .. as values (bools) -/
def tAndV (ta tb : TE) : TE := fun σ H Q => ta σ H fun x H1 => ∃ c, x = .bl c ∧ if c = true then tb σ H1 Q else Q (.bl false) H1
def tNotV (ta : TE) : TE := fun σ H Q => ta σ H fun x H1 => ∃ c, x = .bl c ∧ Q (.bl (!c)) H1
theorem pe_one {op} {t : TE} (h : PE X a t) : PE X (.BoolOp op [a] pos) t := fun pins s σ H Q I hw => BoolOp_one (h pins s σ H Q I hw)
theorem pe_and (ha : PE X a ta) (hb : PE X (.BoolOp .And (b :: rest) pos) tb) : PE X (.BoolOp .And (a :: b :: rest) pos) (tAndV ta tb) := by
  intro pins s σ H Q I h
  refine BoolOp_and (thn (ha pins s σ H _ I h) fun v s1 ⟨x, H1, I1, r1, q1⟩ => ?_)
  obtain ⟨c, rfl, q1⟩ := q1
  cases r1
  refine wpAny_truthy_bool ?_
  cases c with
  | true => exact hb pins s1 σ H1 Q I1 q1
  | false => exact ⟨.bl false, H1, I1, rfl, q1⟩
theorem pe_not (ha : PE X a ta) : PE X (.UnaryOp .Not a pos) (tNotV ta) := by
  intro pins s σ H Q I h
  refine UnaryOp_ (thn (ha pins s σ H _ I h) fun v s1 ⟨x, H1, I1, r1, q1⟩ => ?_)
  obtain ⟨c, rfl, q1⟩ := q1
  cases r1
  exact not_of (wpAny_truthy_bool ⟨.bl (!c), H1, I1, rfl, q1⟩)
/-- a if t else b -/
def tIf (t : TT) (ta tb : TE) : TE := fun σ H Q => t σ H fun c H1 => if c = true then ta σ H1 Q else tb σ H1 Q
theorem pe_ifExp {c : Expr} (hc : PT X c tA) (ha : PE X a ta) (hb : PE X b tb) : PE X (.IfExp c a b pos) (tIf tA ta tb) := by
  intro pins s σ H Q I h
  refine wpAny_IfExp (thn (hc pins s σ H _ I h) fun d s1 ⟨H1, I1, q1⟩ => ?_)
  cases d with
  | true => exact ha pins s1 σ H1 Q I1 q1
  | false => exact hb pins s1 σ H1 Q I1 q1
end
end L2

namespace L2
open PySem PySem.Spec PyProof.Rows

/-! ### a list, a tuple that is read: tracked, frozen, or an object of the module -/
def SqL (K : PySem.W.Frag) (H : Hp) (a : Addr) (xs : List V) : Prop :=
  Rd H a (.lst xs) ∨
    ∃ (o : Obj) (its : Array Value) (n : Nat), K.lookup a = some o ∧ o.cls = .type "list" ∧ o.dict = none ∧ o.data = .seq its n ∧ its.size ≤ sizeLine ∧ Vals xs its.toList
def SqT (K : PySem.W.Frag) (H : Hp) (a : Addr) (xs : List V) : Prop :=
  Rd H a (.tup xs) ∨
    ∃ (o : Obj) (its : Array Value) (n : Nat), K.lookup a = some o ∧ (o.cls = .type "tuple" ∧ o.dict = none) ∧ o.data = .seq its n ∧ its.size ≤ sizeLine ∧ Vals xs its.toList
def absV : Value → Option V
  | .none => some .non
  | .bool b => some (.bl b)
  | .int i _ => some (.int i)
  | .str x _ => some (.str x)
  | .bytes b _ => some (.byt b)
  | .float b _ => some (.flt b)
  | .ref a => some (.ref a)
  | .type n => some (.ty n)
  | _ => none
theorem RelV.abs {x : V} {u : Value} (r : RelV x u) : absV u = some x := by
  cases x with
  | non => cases r; rfl
  | bl _ => cases r; rfl
  | int _ => obtain ⟨t, rfl⟩ := r; rfl
  | str _ => obtain ⟨t, rfl⟩ := r; rfl
  | byt _ => obtain ⟨t, rfl⟩ := r; rfl
  | flt _ => obtain ⟨t, rfl⟩ := r; rfl
  | ref _ => cases r; rfl
  | ty _ => cases r; rfl
theorem RelV.inj {x y : V} {u : Value} (r : RelV x u) (q : RelV y u) : x = y := Option.some.inj (r.abs.symm.trans q.abs)
theorem Vals.inj : ∀ {xs ys : List V} {us : List Value}, Vals xs us → Vals ys us → xs = ys
  | _, _, _, .nil, .nil => rfl
  | _, _, _, .cons r t, .cons r' t' => by rw [r.inj r', Vals.inj t t']
section
variable {X : Cx} {pins : List (Addr × Obj)} {σ : St} {H : Hp} {s : Shared} {a : Addr} {xs ys : List V}
theorem SqL.of {K : PySem.W.Frag} (h : H a = some (.lst xs)) : SqL K H a xs := .inl (.inl h)
theorem SqT.of {K : PySem.W.Frag} (h : H a = some (.tup xs)) : SqT K H a xs := .inl (.inl h)
theorem Inv.list (I : Inv X pins σ H s) (h : SqL X.K H a xs) : ∃ its : List Value, Vals xs its ∧ PlainL s.heap a its.toArray ∧ xs.length ≤ sizeLine := by
  rcases h with h | ⟨o, its, n, hk, hc, hd, hs, hz, r⟩
  · obtain ⟨z, its, n, r, e⟩ := h.ok I.hok
    exact ⟨its, r, ⟨_, n, e, rfl, rfl, rfl⟩, z⟩
  · refine ⟨its.toList, r, ⟨o, n, I.kIn a o hk, hc, hd, by simpa using hs⟩, ?_⟩
    have e := r.length
    simp only [Array.length_toList] at e
    omega
theorem Inv.tuple (I : Inv X pins σ H s) (h : SqT X.K H a xs) : ∃ its : List Value, Vals xs its ∧ IsTup s.heap a its.toArray ∧ xs.length ≤ sizeLine := by
  rcases h with h | ⟨o, its, n, hk, hc, hs, hz, r⟩
  · obtain ⟨z, its, r, p, _⟩ := h.ok I.hok
    exact ⟨its, r, p, z⟩
  · refine ⟨its.toList, r, ⟨o, I.kIn a o hk, hc.1, n, by simpa using hs⟩, ?_⟩
    have e := r.length
    simp only [Array.length_toList] at e
    omega
theorem Inv.tupleD (I : Inv X pins σ H s) (h : SqT X.K H a xs) : ND s.heap a := by
  rcases h with h | ⟨o, its, n, hk, hc, hs, hz, r⟩
  · obtain ⟨z, its, r, p, d⟩ := h.ok I.hok
    exact d
  · exact ⟨o, I.kIn a o hk, hc.2⟩
theorem Inv.list_inj (I : Inv X pins σ H s) (h : SqL X.K H a xs) (h' : SqL X.K H a ys) : xs = ys := by
  obtain ⟨its, r, ⟨o, n, e, _, _, d⟩, _⟩ := I.list h
  obtain ⟨its', r', ⟨o', n', e', _, _, d'⟩, _⟩ := I.list h'
  rw [e] at e'; cases e'
  rw [d] at d'
  injection d' with d1 _
  have : its = its' := by simpa using congrArg Array.toList d1
  subst this
  exact r.inj r'
theorem Inv.tuple_inj (I : Inv X pins σ H s) (h : SqT X.K H a xs) (h' : SqT X.K H a ys) : xs = ys := by
  obtain ⟨its, r, ⟨o, e, _, n, d⟩, _⟩ := I.tuple h
  obtain ⟨its', r', ⟨o', e', _, n', d'⟩, _⟩ := I.tuple h'
  rw [e] at e'; cases e'
  rw [d] at d'
  injection d' with d1 _
  have : its = its' := by simpa using congrArg Array.toList d1
  subst this
  exact r.inj r'
end

/-! ### another wish about exceptions -/
abbrev Cx.wish (X : Cx) (E : Value → Shared → Prop) : Cx := { X with xe := E }
/-- no exception leaves -/
abbrev Cx.nox (X : Cx) : Cx := X.wish fun _ _ => False
theorem Cx.Ok.wish {X : Cx} (ok : X.Ok) (E : Value → Shared → Prop) : (X.wish E).Ok :=
  ⟨ok.mod, ok.kind, ok.glob, ok.blt, ok.above, ok.inj, ok.has, ok.cab, ok.hd, ok.frames, ok.stk, ok.exf, ok.bs, ok.bsz, ok.noex, ok.exfs, ok.funs, ok.frf⟩
theorem Cx.Ok.unwish {X : Cx} {E : Value → Shared → Prop} (ok : (X.wish E).Ok) : X.Ok :=
  ⟨ok.mod, ok.kind, ok.glob, ok.blt, ok.above, ok.inj, ok.has, ok.cab, ok.hd, ok.frames, ok.stk, ok.exf, ok.bs, ok.bsz, ok.noex, ok.exfs, ok.funs, ok.frf⟩
section
variable {X : Cx} {pins : List (Addr × Obj)} {σ : St} {H : Hp} {s : Shared} {E : Value → Shared → Prop}
theorem Inv.wish (I : Inv X pins σ H s) (E : Value → Shared → Prop) : Inv (X.wish E) pins σ H s := ⟨I.ok.wish E, I.os, I.bare, I.base, I.loc, I.cell, I.free, I.freeC, I.pin, I.hok, I.len⟩
theorem Inv.unwish (I : Inv (X.wish E) pins σ H s) : Inv X pins σ H s := ⟨I.ok.unwish, I.os, I.bare, I.base, I.loc, I.cell, I.free, I.freeC, I.pin, I.hok, I.len⟩
theorem SP.unwish {D : Ends} {f : Flow} {s' : Shared} (h : SP (X.wish E) pins D f s') : SP X pins D f s' := by
  cases f with
  | next => obtain ⟨σ', H', I, q⟩ := h; exact ⟨σ', H', I.unwish, q⟩
  | brk => obtain ⟨σ', H', I, q⟩ := h; exact ⟨σ', H', I.unwish, q⟩
  | cont => obtain ⟨σ', H', I, q⟩ := h; exact ⟨σ', H', I.unwish, q⟩
  | ret u => obtain ⟨v, σ', H', I, r, q⟩ := h; exact ⟨v, σ', H', I.unwish, r, q⟩
theorem PE.nox {e : Expr} {t : TE} (h : PE X.nox e t) : PE X e t := fun pins s σ H Q I hw =>
  wpAny_mono (h pins s σ H Q (I.wish _) hw) (fun _ _ ⟨v, H', I', r, q⟩ => ⟨v, H', I'.unwish, r, q⟩) fun _ _ z => False.elim z
theorem PT.nox {e : Expr} {t : TT} (h : PT X.nox e t) : PT X e t := fun pins s σ H Q I hw =>
  wpAny_mono (h pins s σ H Q (I.wish _) hw) (fun _ _ ⟨H', I', q⟩ => ⟨H', I'.unwish, q⟩) fun _ _ z => False.elim z
theorem PSs.nox {st : List Stmt} {t : TS} (h : PSs X.nox st t) : PSs X st t := fun pins s σ H D I hw =>
  wpAny_mono (h pins s σ H D (I.wish _) hw) (fun _ _ q => q.unwish) fun _ _ z => False.elim z
end

/-! ### blocks and small statements -/
section
variable {X : Cx} {st : Stmt} {rest : List Stmt} {t u : TS} {e : Expr} {te : TE} {pos : Pos}
def tNext : TS := fun D σ H => D.nx σ H
def tSeq (t u : TS) : TS := fun D σ H => t { D with nx := u D } σ H
theorem pss_nil : PSs X [] tNext := fun _ _ σ H _ I h => wpAny_execs_nil ⟨σ, H, I, h⟩
theorem pss_cons (h1 : PS X st t) (h2 : PSs X rest u) : PSs X (st :: rest) (tSeq t u) := by
  intro pins s σ H D I h
  refine wpAny_execs_cons (thn (h1 pins s σ H { D with nx := u D } I h) fun f s1 q => ?_)
  cases f with
  | next =>
    obtain ⟨σ', H', I', q⟩ := q
    exact h2 pins s1 σ' H' D I' q
  | ret v => exact q
  | brk => exact q
  | cont => exact q
theorem pss_one (h1 : PS X st t) : PSs X [st] t := by
  intro pins s σ H D I h
  refine wpAny_execs_cons (thn (h1 pins s σ H D I h) fun f s1 q => ?_)
  cases f with
  | next => exact wpAny_execs_nil q
  | ret v => exact q
  | brk => exact q
  | cont => exact q
def tRet (te : TE) : TS := fun D σ H => te σ H D.rt
theorem ps_ret (he : PE X e te) : PS X (.Return (some e) pos) (tRet te) := by
  intro pins s σ H D I h
  exact wpAny_Return_some (thn (he pins s σ H _ I h) fun v s1 ⟨x, H1, I1, r1, q1⟩ => ⟨x, σ, H1, I1, r1, q1⟩)
def tIfS (c : TT) (t u : TS) : TS := fun D σ H => c σ H fun b H1 => if b = true then t D σ H1 else u D σ H1
theorem ps_if {c : Expr} {a b : List Stmt} {tc : TT} (hc : PT X c tc) (ha : PSs X a t) (hb : PSs X b u) : PS X (.If c a b pos) (tIfS tc t u) := by
  intro pins s σ H D I h
  refine wpAny_If (thn (hc pins s σ H _ I h) fun d s1 ⟨H1, I1, q1⟩ => ?_)
  cases d with
  | true => exact ha pins s1 σ H1 D I1 q1
  | false => exact hb pins s1 σ H1 D I1 q1
end

/-! ### targets -/
abbrev TG := V → St → Hp → (St → Hp → Prop) → Prop
abbrev TGs := List V → St → Hp → (St → Hp → Prop) → Prop
def PG (X : Cx) (target : Expr) (t : TG) : Prop :=
  ∀ (pins : List (Addr × Obj)) (s : Shared) (σ : St) (H : Hp) (v : V) (u : Value) (Q : St → Hp → Prop), Inv X pins σ H s → RelV v u → t v σ H Q →
    wpAny (model X.prog X.w) X.A (assign target X.env u) (fun _ s' => ∃ σ' H', Inv X pins σ' H' s' ∧ Q σ' H') X.xe s
/-- several targets, one after another -/
def PGs (X : Cx) (ts : List Expr) (t : TGs) : Prop :=
  ∀ (pins : List (Addr × Obj)) (s : Shared) (σ : St) (H : Hp) (vs : List V) (us : List Value) (Q : St → Hp → Prop), Inv X pins σ H s → Vals vs us → t vs σ H Q →
    wpAny (model X.prog X.w) X.A (assignInOrder ((assignEach ts X.env).map (·.2)) us) (fun _ s' => ∃ σ' H', Inv X pins σ' H' s' ∧ Q σ' H') X.xe s
/-- o[i] = v, by values -/
abbrev TSet := V → V → V → Hp → (Hp → Prop) → Prop
def PSet (X : Cx) (t : TSet) : Prop :=
  ∀ (pins : List (Addr × Obj)) (s : Shared) (σ : St) (H : Hp) (o i v : V) (ov iv u : Value) (Q : Hp → Prop), Inv X pins σ H s → RelV o ov → RelV i iv → RelV v u → t o i v H Q →
    wpAny (model X.prog X.w) X.A (setItem ov iv u) (fun _ s' => ∃ H', Inv X pins σ H' s' ∧ Q H') X.xe s
section
variable {X : Cx} {pos : Pos}
def gName (i : Nat) : TG := fun v σ H Q => Q (σ.set i (some v)) H
theorem pg_name {i : Nat} {x : Str} (hN : X.N.Nodup) (hi : X.N[i]? = some x) (hx : Loc X.env.scope x) (hf : X.fn x = true ∨ X.env.scope.names.lookup x = some .local := by first | exact .inl rfl | exact .inr rfl | assumption) : PG X (.Name x pos) (gName i) := by
  intro pins s σ H v u Q I r h
  exact wpAny_assign_Name (store_ok I hN hi hx r (fun s' I' => ⟨_, H, I', h⟩) hf)
def gNil : TGs := fun vs σ H Q => vs = [] ∧ Q σ H
def gCons (t : TG) (u : TGs) : TGs := fun vs σ H Q => ∃ v r, vs = v :: r ∧ t v σ H fun σ' H' => u r σ' H' Q
theorem pgs_nil : PGs X [] gNil := by
  intro pins s σ H vs us Q I r h
  obtain ⟨e, h⟩ := h
  subst e
  cases r
  exact assignInOrder_nil ⟨σ, H, I, h⟩
theorem pgs_cons {e : Expr} {es : List Expr} {t : TG} {u : TGs} (h1 : PG X e t) (h2 : PGs X es u)
    (hs : (assignEach (e :: es) X.env).map (·.2) = assign e X.env :: (assignEach es X.env).map (·.2) := by rfl) : PGs X (e :: es) (gCons t u) := by
  intro pins s σ H vs us Q I r h
  obtain ⟨v, vr, e1, h⟩ := h
  subst e1
  cases r with
  | cons r rr =>
    rw [hs]
    refine assignInOrder_cons (thn (h1 pins s σ H _ _ _ I r h) fun _ s1 ⟨σ1, H1, I1, q1⟩ => ?_)
    exact h2 pins s1 σ1 H1 _ _ Q I1 rr q1
/-- (a, b, ..) = a tuple of that length -/
def gTup (K : PySem.W.Frag) (n : Nat) (t : TGs) : TG := fun v σ H Q => ∃ a xs, v = .ref a ∧ SqT K H a xs ∧ xs.length = n ∧ t xs σ H Q
theorem pg_tup {es : List Expr} {k : Nat} {t : TGs} {n : Nat} (hc : X.calm = true) (h : PGs X es t)
    (hn : (assignEach es X.env).length = n := by rfl) (hst : (assignEach es X.env).findIdx? (·.1) = none := by rfl) : PG X (.Tuple es k pos) (gTup X.K n t) := by
  intro pins s σ H v u Q I r hw
  obtain ⟨a, xs, e1, hq, hl, hw⟩ := hw
  subst e1
  cases r
  obtain ⟨its, rv, ht, hz⟩ := I.tuple hq
  refine assign_Tuple_tuple (I.ok.hd hc) ht (by simp [hn, ← hl, rv.length]) hst fun h' hx => ?_
  have I1 : Inv X pins σ H { s with heap := h' } := I.kept (t' := s.toks) fun b o e => hx b o (Nat.ne_of_lt (Heap.lt_size e)) e
  exact h pins _ σ H xs _ Q I1 (by simpa using rv) hw
/-- o[i] = .. -/
def gSub (to ti : TE) (t : TSet) : TG := fun v σ H Q => to σ H fun o H1 => ti σ H1 fun i H2 => t o i v H2 fun H3 => Q σ H3
theorem pg_sub {o i : Expr} {to ti : TE} {t : TSet} (ho : PE X o to) (hi : PE X i ti) (hs : PSet X t)
    (ha : ∀ v, assign (.Subscript o i pos) X.env v = (do
      let ov ← holding [v] (eval o X.env)
      let iv ← holding [v, ov] (eval i X.env)
      standAt pos
      holding [v, ov, iv] (setItem ov iv v)
      release [v, ov, iv] []) := by intro _; rfl) : PG X (.Subscript o i pos) (gSub to ti t) := by
  intro pins s σ H v u Q I r h
  rw [ha]
  refine wpAny_bind (wpAny_holding (thn (ho pins s σ H _ I h) fun ov s1 ⟨x, H1, I1, r1, q1⟩ => ?_))
  refine wpAny_bind (wpAny_holding (thn (hi pins s1 σ H1 _ I1 q1) fun iv s2 ⟨y, H2, I2, r2, q2⟩ => ?_))
  refine wpAny_bind (wpAny_standAt (wpAny_bind (wpAny_holding (thn (hs pins s2 σ H2 x y v ov iv u _ I2 r1 r2 r q2) fun _ s3 ⟨H3, I3, q3⟩ => ?_))))
  exact wpAny_release ⟨σ, H3, I3, q3⟩
/-- target = value -/
def tAsg (te : TE) (g : TG) : TS := fun D σ H => te σ H fun x H1 => g x σ H1 D.nx
theorem ps_asg {tg e : Expr} {te : TE} {g : TG} (he : PE X e te) (hg : PG X tg g) (hs : swapsWithSole [tg] e pos.line X.env = pure false := by rfl) (hw : swappedStores [tg] e X.env = pure none := by rfl)
    (h1 : (assignEach [tg] X.env).map (·.2) = [assign tg X.env] := by rfl) : PS X (.Assign [tg] e pos) (tAsg te g) := by
  intro pins s σ H D I h
  refine wpAny_Assign_stores (thn (he pins s σ H _ I h) fun v s1 ⟨x, H1, I1, r1, q1⟩ => ?_) hs hw
  rw [h1]
  exact thn (hg pins s1 σ H1 x v _ I1 r1 q1) fun _ s2 q => q
/-- name = value -/
theorem ps_set {i : Nat} {x : Str} {e : Expr} {te : TE} {pos' : Pos} (hN : X.N.Nodup) (hi : X.N[i]? = some x) (hx : Loc X.env.scope x) (he : PE X e te) (hs : swapsWith e (some (.Name x pos')) pos.line X.env = pure false := by rfl) (hf : X.fn x = true ∨ X.env.scope.names.lookup x = some .local := by first | exact .inl rfl | exact .inr rfl | assumption) :
    PS X (.Assign [.Name x pos'] e pos) (tAsg te (gName i)) := by
  intro pins s σ H D I h
  refine wpAny_Assign_Name (thn (he pins s σ H _ I h) fun v s1 ⟨y, H1, I1, r1, q1⟩ => ?_) hs
  exact store_ok I1 hN hi hx r1 (fun s2 I2 => ⟨_, H1, I2, q1⟩) hf
/-- a, b = x, y with plain local names: stored from the right; the pair itself is not tracked (the opening rows as in PyProof/Rows/TupAssign.lean:23) -/
def tPar (i j : Nat) (ta : TA) : TS := fun D σ H => ta σ H fun vs H1 => ∃ v w, vs = [v, w] ∧ D.nx ((σ.set i (some v)).set j (some w)) H1
theorem ps_par {i j : Nat} {x y : Str} {a b : Expr} {ta : TA} {px py pt : Pos} {kt k2 pt2} (hc : X.calm = true) (hN : X.N.Nodup) (hi : X.N[i]? = some x) (hj : X.N[j]? = some y) (hij : i ≠ j)
    (hx : X.env.scope.names.lookup x = some .local) (hy : X.env.scope.names.lookup y = some .local) (ha : PA X [a, b] ta)
    (hw : swappedStores [.Tuple [.Name x px, .Name y py] kt pt] (.Tuple [a, b] k2 pt2) X.env = pure (some [x, y]))
    (hs : swapsWithSole [.Tuple [.Name x px, .Name y py] kt pt] (.Tuple [a, b] k2 pt2) pos.line X.env = pure false := by rfl) :
    PS X (.Assign [.Tuple [.Name x px, .Name y py] kt pt] (.Tuple [a, b] k2 pt2) pos) (tPar i j ta) := by
  intro pins s σ H D I h
  rw [exec_Assign_arm]
  refine wpAny_bind (wpAny_standAt ?_)
  rw [hs]
  refine wpAny_bind (wpAny_pure ?_)
  rw [if_neg (by decide)]
  refine wpAny_bind (Tuple_ (thn (ha _ pins s σ H _ I h) fun us s1 ⟨vs, H1, I1, r1, q1⟩ => ?_))
  obtain ⟨v, w, e1, q1⟩ := q1
  subst e1
  obtain ⟨u1, u2, rfl, rv, rw'⟩ : ∃ u1 u2, us = [u1, u2] ∧ RelV v u1 ∧ RelV w u2 := by
    cases r1 with
    | cons p q =>
      cases q with
      | cons p' q' =>
        cases q'
        exact ⟨_, _, rfl, p, p'⟩
  refine wpAny_newObj_type ?_ (by show 2 ≤ sizeLine; decide)
  have I2 : Inv X pins σ H1 { s1 with heap := s1.heap.push { cls := .type "tuple", data := .seq [u1, u2].toArray } } := I1.kept (t' := s1.toks) fun b o e => Heap.get?_push_of_some _ e
  rw [hw]
  refine wpAny_bind (wpAny_pure ?_)
  show wpAny (model X.prog X.w) X.A (do rule "assign.swapped-stores"; let items ← unpackItems (.ref s1.heap.objs.size) 2 none; assignInOrder [fun v => bindName X.env y v, fun v => bindName X.env x v] items.reverse; pure Flow.next) _ _ _
  refine wpAny_bind (wpAny_rule (wpAny_bind (unpackItems_tuple (items := #[u1, u2]) (I.ok.hd hc) (IsTup.new s1.heap _) fun h' hx' => ?_)))
  have I3 := I2.kept (h' := h') (t' := s1.toks) fun b o e => hx' b o (Nat.ne_of_lt (Heap.lt_size e)) e
  show wpAny _ _ (assignInOrder [fun v => bindName X.env y v, fun v => bindName X.env x v] [u2, u1] >>= fun _ => pure Flow.next) _ _ _
  refine wpAny_bind (assignInOrder_cons (wpAny_bindName (store_ok I3 hN hj (.inl hy) rw' (fun s2 I4 => ?_) (.inr hy))))
  refine assignInOrder_cons (wpAny_bindName (store_ok I4 hN hi (.inl hx) rv (fun s3 I5 => assignInOrder_nil (wpAny_pure ?_)) (.inr hx)))
  rw [List.set_comm _ _ (Ne.symm hij)] at I5
  exact ⟨_, H1, I5, q1⟩
end

/-! ### while -/
section
variable {X : Cx} {pos : Pos}
end

/-! ### what a loop or a comprehension walks -/
/-- at turn i: it yields x (the heap may grow), or it stops -/
structure It where
  go : Nat → Hp → Prop
  yld : Nat → Hp → V → Hp → Prop
  stop : Nat → Hp → Prop
/-- the iterator's own objects may turn: they are not the frame's, not pinned, younger than the entry (or a comprehension's own) -/
def FpOk (X : Cx) (pins : List (Addr × Obj)) (H : Hp) (b : Addr) : Prop :=
  H b = none ∧ b ≠ X.env.locals ∧ b ∉ X.fs ∧ (b ∈ X.ex ∨ X.s_0.heap.objs.size ≤ b) ∧ (∀ x c, X.env.cells.lookup x = some c → c ≠ b) ∧ ∀ p ∈ X.pn ++ pins, p.1 ≠ b
theorem Inv.fpOk {X : Cx} {pins : List (Addr × Obj)} {σ : St} {H H' : Hp} {s : Shared} {b : Addr} (I : Inv X pins σ H s) (hb : s.heap.objs.size ≤ b) (hn : H' b = none) : FpOk X pins H' b := by
  refine ⟨hn, Nat.ne_of_gt (Nat.lt_of_lt_of_le I.lt hb), I.nofs hb, .inr (Nat.le_trans I.sz hb), fun x c e z => ?_, fun p hp z => ?_⟩
  · obtain ⟨v, q⟩ := I.cell x c e
    exact absurd (Nat.lt_of_lt_of_le q.lt (by rw [z]; exact hb)) (Nat.lt_irrefl _)
  · exact absurd (Nat.lt_of_lt_of_le (Heap.lt_size (I.pin p hp).1) (by rw [z]; exact hb)) (Nat.lt_irrefl _)
structure Turn (P : Program) (w : World) (K : PySem.W.Frag) (tg : Expr) (J : It) (fp : List Addr) (it : Addr) (tn : Nat → Heap → Prop) : Prop where
  mem : it ∈ fp
  obj : ∀ i h, tn i h → ∀ b ∈ fp, ∃ o, h.get? b = some o ∧ ∀ v, o.data ≠ .cell v
  keep : ∀ i h h', tn i h → (∀ b ∈ fp, ∀ o, h.get? b = some o → h'.get? b = some o) → tn i h'
  item : ∀ (X : Cx), X.prog = P → X.w = w → X.K = K → X.calm = true → ∀ (i : Nat) (pins : List (Addr × Obj)) (s : Shared) (σ : St) (H : Hp) (E : Value → Shared → Prop), Inv X pins σ H s → (∀ b ∈ fp, FpOk X pins H b) → tn i s.heap → J.go i H →
    wpAny (model P w) X.A (pyNext (.ref it)) (fun r s1 => ∃ u, r = some u ∧
      wpAny (model P w) X.A (letOwnedTupleGo tg (.ref it) u) (fun _ s2 => ∃ x H', Inv X pins σ H' s2 ∧ RelV x u ∧ J.yld i H x H' ∧ tn (i + 1) s2.heap ∧ ∀ b ∈ fp, H' b = none) E s1) E s
  done : ∀ (X : Cx), X.prog = P → X.w = w → X.K = K → X.calm = true → ∀ (i : Nat) (pins : List (Addr × Obj)) (s : Shared) (σ : St) (H : Hp) (E : Value → Shared → Prop), Inv X pins σ H s → (∀ b ∈ fp, FpOk X pins H b) → tn i s.heap → J.stop i H →
    wpAny (model P w) X.A (pyNext (.ref it)) (fun r s1 => r = none ∧ Inv X pins σ H s1) E s
  self : ∀ (A : Around) (i : Nat) (s : Shared) (Q : Value → Shared → Prop) (E : Value → Shared → Prop), tn i s.heap → Q (.ref it) s → wpAny (model P w) A (pyIter (.ref it)) Q E s
abbrev TI := St → Hp → (It → Hp → Prop) → Prop
/-- an iterator has come -/
def PIE (X : Cx) (pins : List (Addr × Obj)) (σ : St) (tg : Expr) (R : It → Hp → Prop) (itv : Value) (s2 : Shared) : Prop :=
  ∃ (it : Addr) (fp : List Addr) (tn : Nat → Heap → Prop) (J : It) (H' : Hp), itv = .ref it ∧ Inv X pins σ H' s2 ∧ Turn X.prog X.w X.K tg J fp it tn ∧ tn 0 s2.heap ∧ (∀ b ∈ fp, FpOk X pins H' b) ∧ R J H'
def PI (X : Cx) (tg iter : Expr) (wi : TI) : Prop :=
  ∀ (pins : List (Addr × Obj)) (s : Shared) (σ : St) (H : Hp) (R : It → Hp → Prop), Inv X pins σ H s → wi σ H R →
    wpAny (model X.prog X.w) X.A (eval iter X.env) (fun v s1 => wpAny (model X.prog X.w) X.A (pyIter v) (PIE X pins σ tg R) X.xe s1) X.xe s

/-- the step ahead of the store is nothing for an iterator that keeps no tuple -/
theorem go_of {M : Model} {A : Around} {E : Value → Shared → Prop} {s : Shared} {tg : Expr} {it : Addr} {u : Value} {o : Obj} {n : String} {vs : Array Value} {Q : Unit → Shared → Prop} (ho : s.heap.get? it = some o) (hc : o.cls = .type n) (hd : o.data = .fields vs)
    (hn : ["enumerate", "zip", "dict_itemiterator", "dict_reverseitemiterator", "odict_iterator", "itertools.zip_longest", "itertools.pairwise"].contains n = false) (hQ : Q () s) : wpAny M A (letOwnedTupleGo tg (.ref it) u) Q E s := by
  unfold letOwnedTupleGo
  cases tg <;> first
    | exact wpAny_pure hQ
    | (cases u <;> first
        | exact wpAny_pure hQ
        | (refine wpAny_bind (wpAny_load ho ?_)
           rw [hc, hd]
           show wpAny M A (if (["enumerate", "zip", "dict_itemiterator", "dict_reverseitemiterator", "odict_iterator", "itertools.zip_longest", "itertools.pairwise"].contains n && vs[0]? == some (rawInt _)) = true then _ else _) Q E s
           rw [if_neg (by intro h; rw [hn, Bool.false_and] at h; cases h)]
           exact wpAny_pure hQ))

/-- the list at a, as it stands at each turn (a loop may append to it) -/
def Itl (K : PySem.W.Frag) (a : Addr) : It :=
  ⟨fun i H => ∃ xs x, SqL K H a xs ∧ xs[i]? = some x, fun i H x H' => H' = H ∧ ∀ xs, SqL K H a xs → xs[i]? = some x, fun i H => ∃ xs, SqL K H a xs ∧ xs.length ≤ i⟩
def Itt (K : PySem.W.Frag) (a : Addr) : It :=
  ⟨fun i H => ∃ xs x, SqT K H a xs ∧ xs[i]? = some x, fun i H x H' => H' = H ∧ ∀ xs, SqT K H a xs → xs[i]? = some x, fun i H => ∃ xs, SqT K H a xs ∧ xs.length ≤ i⟩
/-- lo, lo + 1, .. (n of them) -/
def Itr (lo : Int) (n : Nat) : It := ⟨fun i _ => i < n, fun i H x H' => H' = H ∧ x = .int (lo + i), fun i _ => n ≤ i⟩
theorem turn_list {P : Program} {w : World} {K : PySem.W.Frag} {tg : Expr} (a it : Addr) : Turn P w K tg (Itl K a) [it] it (fun i h => h.IsListIter it a i) where
  mem := by simp
  obj := fun i h st b hb => by
    have e : b = it := by simpa using hb
    subst e
    obtain ⟨o, e, c, d⟩ := st
    exact ⟨o, e, fun v z => by rw [d] at z; cases z⟩
  keep := fun i h h' st k => st.at fun o e => k it (by simp) o e
  item := by
    intro X hP hw hK hc i pins s σ H E I hf st hg
    subst hP hw hK
    obtain ⟨xs, x, hq, hx⟩ := hg
    obtain ⟨its, rv, p, hz⟩ := I.list hq
    obtain ⟨u, hu, ru⟩ := rv.get hx
    obtain ⟨f0, f1, f2, f3, f4, f5⟩ := hf it (by simp)
    refine wpAny_pyNext_list_item st p.isList (x := u) (by simpa using hu) fun h' st' sb => ?_
    have I1 : Inv X pins σ H { s with heap := h' } := I.turned (t' := s.toks) (fun b o hb e => (sb.2 b hb).trans e) f0 f1 f3 f4 f5
    obtain ⟨o, e, c, d⟩ := id st'
    exact ⟨u, rfl, go_of (s := { s with heap := h' }) e c d (by decide) ⟨x, H, I1, ru, ⟨rfl, fun ys hy => by rw [I.list_inj hy hq]; exact hx⟩, st', fun b hb => (hf b hb).1⟩⟩
  done := by
    intro X hP hw hK hc i pins s σ H E I hf st hg
    subst hP hw hK
    obtain ⟨xs, hq, hx⟩ := hg
    obtain ⟨its, rv, p, hz⟩ := I.list hq
    obtain ⟨f0, f1, f2, f3, f4, f5⟩ := hf it (by simp)
    have hl := rv.length
    exact wpAny_pyNext_list_end (I.ok.hd hc) st p.isList (by simp; omega) fun h' eb => ⟨rfl, I.turned (t' := s.toks) (fun b o hb e => eb b o hb e) f0 f1 f3 f4 f5⟩
  self := fun _ _ _ _ _ st h => wpAny_pyIter_listiter st h
theorem turn_tuple {P : Program} {w : World} {K : PySem.W.Frag} {tg : Expr} (a it : Addr) : Turn P w K tg (Itt K a) [it] it (fun i h => h.IsTupleIter it a i) where
  mem := by simp
  obj := fun i h st b hb => by
    have e : b = it := by simpa using hb
    subst e
    obtain ⟨o, e, c, d⟩ := st
    exact ⟨o, e, fun v z => by rw [d] at z; cases z⟩
  keep := fun i h h' st k => st.at fun o e => k it (by simp) o e
  item := by
    intro X hP hw hK hc i pins s σ H E I hf st hg
    subst hP hw hK
    obtain ⟨xs, x, hq, hx⟩ := hg
    obtain ⟨its, rv, p, hz⟩ := I.tuple hq
    obtain ⟨u, hu, ru⟩ := rv.get hx
    obtain ⟨f0, f1, f2, f3, f4, f5⟩ := hf it (by simp)
    refine wpAny_pyNext_tuple_item st (show s.heap.IsTuple a its.toArray from p) (x := u) (by simpa using hu) fun h' st' sb => ?_
    have I1 : Inv X pins σ H { s with heap := h' } := I.turned (t' := s.toks) (fun b o hb e => (sb.2 b hb).trans e) f0 f1 f3 f4 f5
    obtain ⟨o, e, c, d⟩ := id st'
    exact ⟨u, rfl, go_of (s := { s with heap := h' }) e c d (by decide) ⟨x, H, I1, ru, ⟨rfl, fun ys hy => by rw [I.tuple_inj hy hq]; exact hx⟩, st', fun b hb => (hf b hb).1⟩⟩
  done := by
    intro X hP hw hK hc i pins s σ H E I hf st hg
    subst hP hw hK
    obtain ⟨xs, hq, hx⟩ := hg
    obtain ⟨its, rv, p, hz⟩ := I.tuple hq
    obtain ⟨f0, f1, f2, f3, f4, f5⟩ := hf it (by simp)
    have hl := rv.length
    exact wpAny_pyNext_tuple_end (I.ok.hd hc) st (show s.heap.IsTuple a its.toArray from p) (by simp; omega) fun h' eb => ⟨rfl, I.turned (t' := s.toks) (fun b o hb e => eb b o hb e) f0 f1 f3 f4 f5⟩
  self := fun _ _ _ _ _ st h => wpAny_pyIter_tupleiter st h
theorem turn_range {P : Program} {w : World} {K : PySem.W.Frag} {tg : Expr} (it : Addr) (lo : Int) (n : Nat) : Turn P w K tg (Itr lo n) [it] it (fun i h => IsRangeIter h it (lo + (i : Nat) * 1) ((n : Int) - (i : Nat)) 1) where
  mem := by simp
  obj := fun i h st b hb => by
    have e : b = it := by simpa using hb
    subst e
    exact ⟨_, st, fun v z => by
      have z' : Data.fields _ = Data.cell v := z
      cases z'⟩
  keep := fun i h h' st k => k it (by simp) _ st
  item := by
    intro X hP hw hK hc i pins s σ H E I hf st hg
    subst hP hw hK
    obtain ⟨f0, f1, f2, f3, f4, f5⟩ := hf it (by simp)
    have W := Walks.range (prog := X.prog) (w := X.w) (I.ok.hd hc) it lo 1 n
    refine W.item i s _ _ hg st fun v h' tk hv st' kk => ?_
    obtain ⟨t, rfl⟩ := hv
    have I1 : Inv X pins σ H { s with heap := h', toks := tk } := I.turned (fun b o hb e => kk b o (by simpa using hb) e) f0 f1 f3 f4 f5
    refine ⟨_, rfl, go_of (s := { s with heap := h', toks := tk }) (n := "range_iterator") st' rfl rfl (by decide) ⟨.int (lo + i), H, I1, ⟨t, ?_⟩, ⟨rfl, rfl⟩, st', fun b hb => (hf b hb).1⟩⟩
    rw [Int.mul_one]
  done := by
    intro X hP hw hK hc i pins s σ H E I hf st hg
    subst hP hw hK
    obtain ⟨f0, f1, f2, f3, f4, f5⟩ := hf it (by simp)
    exact wpAny_pyNext_range_end (I.ok.hd hc) st (by have : n ≤ i := hg; omega) fun h' eb => ⟨rfl, I.turned (t' := s.toks) (fun b o hb e => eb b o hb e) f0 f1 f3 f4 f5⟩
  self := fun _ _ _ _ _ st h => wpAny_pyIter_rangeiter st h
end L2

namespace L2
open PySem PySem.Spec PyProof.Rows
section
variable {X : Cx} {tg : Expr}
/-- a range object just made, walked -/
theorem range_it {pins : List (Addr × Obj)} {σ : St} {H : Hp} {s : Shared} {R : It → Hp → Prop} {E : Value → Shared → Prop} {lo hi : Int} {t u v : Tok} {tk : Nat} (I : Inv X pins σ H s) (h1 : -(2 ^ 62) ≤ lo) (h2 : lo < 2 ^ 62) (h3 : -(2 ^ 62) ≤ hi) (h4 : hi < 2 ^ 62)
    (q : R (Itr lo (hi - lo).toNat) H) : wpAny (model X.prog X.w) X.A (pyIter (.ref s.heap.objs.size)) (PIE X pins σ tg R) E { s with heap := s.heap.push { cls := .type "range", data := .fields #[.int lo t, .int hi u, .int 1 v] }, toks := tk } := by
  refine wpAny_pyIter_range (IsRange.new ..) (small_one h1 h2 h3 h4) ?_
  have I1 : Inv X pins σ H { s with heap := s.heap.push { cls := .type "range", data := .fields #[.int lo t, .int hi u, .int 1 v] }, toks := tk } := I.kept fun b o e => Heap.get?_push_of_some _ e
  refine ⟨(s.heap.push { cls := .type "range", data := .fields #[.int lo t, .int hi u, .int 1 v] }).objs.size, [(s.heap.push { cls := .type "range", data := .fields #[.int lo t, .int hi u, .int 1 v] }).objs.size], _, _, H, rfl,
    I1.kept (t' := tk) fun b o e => Heap.get?_push_of_some _ e, turn_range _ lo (hi - lo).toNat, ?_, fun b hb => ?_, q⟩
  · have e1 : lo + ((0 : Nat) : Int) * 1 = lo := by simp
    have e2 : (((hi - lo).toNat : Nat) : Int) - ((0 : Nat) : Int) = Builtin.Range.rangeSize lo hi 1 := by rw [rangeSize_one]; split <;> omega
    show IsRangeIter _ _ (lo + ((0 : Nat) : Int) * 1) ((((hi - lo).toNat : Nat) : Int) - ((0 : Nat) : Int)) 1
    rw [e1, e2]
    exact Heap.get?_push_size _ rfl
  · have e : b = (s.heap.push { cls := .type "range", data := .fields #[.int lo t, .int hi u, .int 1 v] }).objs.size := by simpa using hb
    subst e
    exact I1.fpOk (Nat.le_refl _) (I1.hok.fresh (Nat.le_refl _))
def iRng1 (ta : TA) : TI := fun σ H R => ta σ H fun vs H1 => ∃ j : Int, vs = [.int j] ∧ -(2 ^ 62) ≤ j ∧ j < 2 ^ 62 ∧ R (Itr 0 j.toNat) H1
theorem pi_range1 {a : Expr} {ta : TA} {p pos : Pos} (hg : Gl X "range") (hm : X.mg "range" = none) (ha : PA X [a] ta) (hs : starEach [a] X.env = [(false, eval a X.env)] := by rfl) : PI X tg (.Call (.Name "range" p) [a] [] pos) (iRng1 ta) := by
  intro pins s σ H R I h
  refine Call_ (ld_blt I hg hm boot_range (PyProof.Rows.callWith_type1 (thn (ha pos pins s σ H _ I h) fun us s1 ⟨vs, H1, I1, r1, q1⟩ => ?_) hs rfl))
  obtain ⟨j, e, q1, q2, q⟩ := q1
  subst e
  cases r1 with
  | cons r rr =>
    cases rr
    obtain ⟨t, rfl⟩ := r
    exact call_range_1 (range_it I1 (by omega) (by omega) q1 q2 (by simpa using q))
/-! ### for -/
/-- W: the invariant by the turn and a measure; N: what the body is to reach -/
def tFor (wi : TI) (g : TG) (tb : TS) : TS := fun D σ H => wi σ H fun J H1 => ∃ W : Nat → Nat → St → Hp → Prop, (∃ m, W 0 m σ H1) ∧ ∀ i m σ H, W i m σ H →
  (J.stop i H ∧ D.nx σ H) ∨ (J.go i H ∧ ∃ N : St → Hp → Prop, (∀ σ' H', N σ' H' → ∃ m', m' < m ∧ W (i + 1) m' σ' H') ∧ ∀ x H', J.yld i H x H' → g x σ H' fun σ2 H2 => tb { D with nx := N, ct := N, bk := D.nx } σ2 H2)
/-- the records at fp as they stand -/
def pinsAt (fp : List Addr) (h : Heap) : List (Addr × Obj) := fp.filterMap fun b => (h.get? b).map fun o => (b, o)
theorem mem_pinsAt {fp : List Addr} {h : Heap} {b : Addr} {o : Obj} (hb : b ∈ fp) (e : h.get? b = some o) : (b, o) ∈ pinsAt fp h := List.mem_filterMap.mpr ⟨b, hb, by rw [e]; rfl⟩
theorem of_pinsAt {fp : List Addr} {h : Heap} {p : Addr × Obj} (hp : p ∈ pinsAt fp h) : p.1 ∈ fp ∧ h.get? p.1 = some p.2 := by
  obtain ⟨b, hb, e⟩ := List.mem_filterMap.mp hp
  cases q : h.get? b with
  | none => rw [q] at e; cases e
  | some o =>
    rw [q] at e
    have e' : (b, o) = p := Option.some.inj e
    subst e'
    exact ⟨hb, q⟩
theorem Inv.pinned {pins : List (Addr × Obj)} {σ : St} {H : Hp} {s : Shared} {fp : List Addr} (I : Inv X pins σ H s) (hf : ∀ b ∈ fp, FpOk X pins H b) (ho : ∀ b ∈ fp, ∃ o, s.heap.get? b = some o ∧ ∀ v, o.data ≠ .cell v) : Inv X (pins ++ pinsAt fp s.heap) σ H s :=
  I.pins_of fun p hp => (List.mem_append.mp hp).elim (fun z => I.pin p (List.mem_append_right _ z)) fun z => by
    obtain ⟨hb, e⟩ := of_pinsAt z
    obtain ⟨f0, f1, f2, _⟩ := hf p.1 hb
    obtain ⟨o, e', d⟩ := ho p.1 hb
    rw [e] at e'; cases e'
    exact ⟨e, f0, f1, f2, d⟩
theorem Inv.unpinned {pins pl : List (Addr × Obj)} {σ : St} {H : Hp} {s : Shared} (I : Inv X (pins ++ pl) σ H s) : Inv X pins σ H s := I.pins_of fun p hp => I.pin p (List.mem_append_right _ (List.mem_append_left _ hp))
theorem ps_for {iter : Expr} {body : List Stmt} {wi : TI} {g : TG} {tb : TS} {pos : Pos} (hp : PassesOwn (model X.prog X.w) X.A X.env X.xe) (hc : X.calm = true) (hi : PI X tg iter wi) (hg : PG X tg g) (hb : PSs X body tb)
    (hs : ∀ x, foldedSetIterable iter X.env x = pure x := by intro _; rfl) : PS X (.For tg iter body [] pos) (tFor wi g tb) := by
  intro pins s σ H D I h
  refine wpAny_For (thn (hi pins s σ H _ I h) fun v s1 h1 => thn h1 fun itv s2 h2 => ?_) hs
  obtain ⟨it, fp, tn, J, H2, e, I2, T, st2, f2, W, ⟨m0, w0⟩, turn⟩ := h2
  subst e
  -- what stays true of the iterator's objects through the loop
  have stat : ∀ {H' : Hp}, (∀ b ∈ fp, H' b = none) → ∀ b ∈ fp, FpOk X pins H' b := fun hn b hb => ⟨hn b hb, (f2 b hb).2⟩
  refine codeAny_forLoop_any (fun n s' => ∃ i σ' H', Inv X pins σ' H' s' ∧ tn i s'.heap ∧ (∀ b ∈ fp, H' b = none) ∧ W i n σ' H') ?_ m0 ⟨0, σ, H2, I2, st2, fun b hb => (f2 b hb).1, w0⟩
  rintro n s3 ⟨i, σ3, H3, I3, st3, fr3, w3⟩
  rcases turn i n σ3 H3 w3 with ⟨stop, qn⟩ | ⟨go, N, hN, step⟩
  · refine wpAny_passesOwn hp (thn (T.done X rfl rfl rfl hc i pins s3 σ3 H3 X.xe I3 (stat fr3) st3 stop) fun r s4 ⟨hr, I4⟩ => ?_)
    subst hr
    exact wpAny_execs_nil ⟨σ3, H3, I4, qn⟩
  · refine wpAny_passesOwn hp (thn (T.item X rfl rfl rfl hc i pins s3 σ3 H3 X.xe I3 (stat fr3) st3 go) fun r s4 ⟨u, hr, h4⟩ => ?_)
    subst hr
    refine wpAny_passesOwn hp (thn h4 fun _ s5 ⟨x, H5, I5, r5, y5, st5, fr5⟩ => ?_)
    have I5' := I5.pinned (stat fr5) (T.obj _ _ st5)
    refine wpAny_passesOwn hp (thn (hg _ s5 σ3 H5 x u _ I5' r5 (step x H5 y5)) fun _ s6 ⟨σ6, H6, I6, q6⟩ => ?_)
    refine wpAny_passesOwn hp (thn (hb _ s6 σ6 H6 _ I6 q6) fun f s7 q7 => ?_)
    have again : ∀ {σ7 : St} {H7 : Hp}, Inv X (pins ++ pinsAt fp s5.heap) σ7 H7 s7 → N σ7 H7 → ∃ m, m < n ∧ ∃ i σ' H', Inv X pins σ' H' s7 ∧ tn i s7.heap ∧ (∀ b ∈ fp, H' b = none) ∧ W i m σ' H' := fun {σ7 H7} I7 n7 => by
      obtain ⟨m', hm, w7⟩ := hN σ7 H7 n7
      refine ⟨m', hm, i + 1, σ7, H7, I7.unpinned, T.keep _ _ _ st5 fun b hb o e => (I7.pin (b, o) (List.mem_append_right _ (List.mem_append_right _ (mem_pinsAt hb e)))).1, fun b hb => ?_, w7⟩
      obtain ⟨o, e, d⟩ := T.obj _ _ st5 b hb
      exact (I7.pin (b, o) (List.mem_append_right _ (List.mem_append_right _ (mem_pinsAt hb e)))).2.1
    cases f with
    | next => obtain ⟨σ7, H7, I7, n7⟩ := q7; exact again I7 n7
    | cont => obtain ⟨σ7, H7, I7, n7⟩ := q7; exact again I7 n7
    | brk => obtain ⟨σ7, H7, I7, q7⟩ := q7; exact ⟨σ7, H7, I7.unpinned, q7⟩
    | ret v => obtain ⟨x7, σ7, H7, I7, r7, q7⟩ := q7; exact ⟨x7, σ7, H7, I7.unpinned, r7, q7⟩
end

/-! ### the forms one uses -/
end L2

namespace L2
open PySem PySem.Spec PyProof.Rows

abbrev R2 := V → V → Hp → VK → Prop
/-- a two-place operation on values: f is binaryOp op, inplaceOp op or compareOp op -/
def OpR (X : Cx) (f : Value → Value → Sem Value) (r : R2) : Prop :=
  ∀ (pins : List (Addr × Obj)) (s : Shared) (σ : St) (H : Hp) (x y : V) (v u : Value) (Q : VK), Inv X pins σ H s → RelV x v → RelV y u → r x y H Q →
    wpAny (model X.prog X.w) X.A (f v u) (EP X pins σ Q) X.xe s
/-- a one-place operation -/
def UnR (X : Cx) (f : Value → Sem Value) (r : V → Hp → VK → Prop) : Prop :=
  ∀ (pins : List (Addr × Obj)) (s : Shared) (σ : St) (H : Hp) (x : V) (v : Value) (Q : VK), Inv X pins σ H s → RelV x v → r x H Q →
    wpAny (model X.prog X.w) X.A (f v) (EP X pins σ Q) X.xe s
/-- a call of a value that is known (a builtin, a type) with values -/
def CallR (X : Cx) (f : Value) (r : List V → Hp → VK → Prop) : Prop :=
  ∀ (pins : List (Addr × Obj)) (s : Shared) (σ : St) (H : Hp) (xs : List V) (us : List Value) (Q : VK), Inv X pins σ H s → Vals xs us → r xs H Q →
    wpAny (model X.prog X.w) X.A (call f us) (EP X pins σ Q) X.xe s
/-- a value's truth -/
def TruR (X : Cx) (r : V → Hp → (Bool → Hp → Prop) → Prop) : Prop :=
  ∀ (pins : List (Addr × Obj)) (s : Shared) (σ : St) (H : Hp) (x : V) (v : Value) (Q : Bool → Hp → Prop), Inv X pins σ H s → RelV x v → r x H Q →
    wpAny (model X.prog X.w) X.A (truthy v) (TP X pins σ Q) X.xe s

def tOp (r : R2) (ta tb : TE) : TE := fun σ H Q => ta σ H fun x H1 => tb σ H1 fun y H2 => r x y H2 Q
def tUn (r : V → Hp → VK → Prop) (ta : TE) : TE := fun σ H Q => ta σ H fun x H1 => r x H1 Q
/-- ints in, under C, and a value out -/
def rI (C : Int → Int → Prop) (g : Int → Int → V) : R2 := fun x y H Q => ∃ i j, x = .int i ∧ y = .int j ∧ C i j ∧ Q (g i j) H
def rI0 (g : Int → Int → V) : R2 := fun x y H Q => ∃ i j, x = .int i ∧ y = .int j ∧ Q (g i j) H
def rU (g : Int → V) : V → Hp → VK → Prop := fun x H Q => ∃ i, x = .int i ∧ Q (g i) H

section
variable {X : Cx} {a b c : Expr} {ta tb tc : TE} {pos : Pos}

theorem binT (ha : PE X a ta) (hb : PE X b tb) {pins : List (Addr × Obj)} {s : Shared} {σ : St} {H : Hp} {R : V → V → Hp → Prop} (I : Inv X pins σ H s)
    (h : ta σ H fun x H1 => tb σ H1 fun y H2 => R x y H2) {Q : Value → Shared → Prop} {f : Value → Value → Sem Value}
    (hf : ∀ v u s2 x y H2, Inv X pins σ H2 s2 → RelV x v → RelV y u → R x y H2 → wpAny (model X.prog X.w) X.A (f v u) Q X.xe s2) :
    wpAny (model X.prog X.w) X.A (eval a X.env) (fun v s₁ => wpAny (model X.prog X.w) X.A (eval b X.env) (fun u s₂ => wpAny (model X.prog X.w) X.A (f v u) Q X.xe s₂) X.xe s₁) X.xe s := by
  refine thn (ha pins s σ H _ I h) fun v s1 ⟨x, H1, I1, r1, q1⟩ => ?_
  refine thn (hb pins s1 σ H1 _ I1 q1) fun u s2 ⟨y, H2, I2, r2, q2⟩ => ?_
  exact hf v u s2 x y H2 I2 r1 r2 q2

theorem pe_op {op : Operator} {r : R2} (ho : OpR X (binaryOp op) r) (ha : PE X a ta) (hb : PE X b tb) : PE X (.BinOp a op b pos) (tOp r ta tb) := by
  intro pins s σ H Q I h
  exact wpAny_BinOp (binT ha hb I h fun v u s2 x y H2 I2 rx ry q => ho pins s2 σ H2 x y v u Q I2 rx ry q)
theorem pe_un {op : UnaryOp} {r : V → Hp → VK → Prop} (ho : UnR X (unaryOp op) r) (ha : PE X a ta) : PE X (.UnaryOp op a pos) (tUn r ta) := by
  intro pins s σ H Q I h
  exact UnaryOp_ (thn (ha pins s σ H _ I h) fun v s1 ⟨x, H1, I1, r1, q1⟩ => ho pins s1 σ H1 x v Q I1 r1 q1)
/-! ### ints -/
theorem opI {f : Value → Value → Sem Value} {C : Int → Int → Prop} {g : Int → Int → Int}
    (rule : ∀ (i j : Int) (t u : Tok) (s : Shared) (Q : Value → Shared → Prop) (E : Value → Shared → Prop), C i j → Q (.int (g i j) s.toks) { s with toks := s.toks + 1 } → wpAny (model X.prog X.w) X.A (f (.int i t) (.int j u)) Q E s) :
    OpR X f (rI C fun i j => .int (g i j)) := by
  intro pins s σ H x y v u Q I rx ry h
  obtain ⟨i, j, rfl, rfl, hc, q⟩ := h
  obtain ⟨t, rfl⟩ := rx
  obtain ⟨t', rfl⟩ := ry
  exact rule i j t t' s _ _ hc ⟨.int (g i j), H, I.tok _, ⟨_, rfl⟩, q⟩
theorem opI0 {f : Value → Value → Sem Value} {g : Int → Int → Int}
    (rule : ∀ (i j : Int) (t u : Tok) (s : Shared) (Q : Value → Shared → Prop) (E : Value → Shared → Prop), Q (.int (g i j) s.toks) { s with toks := s.toks + 1 } → wpAny (model X.prog X.w) X.A (f (.int i t) (.int j u)) Q E s) :
    OpR X f (rI0 fun i j => .int (g i j)) := by
  intro pins s σ H x y v u Q I rx ry h
  obtain ⟨i, j, rfl, rfl, q⟩ := h
  obtain ⟨t, rfl⟩ := rx
  obtain ⟨t', rfl⟩ := ry
  exact rule i j t t' s _ _ ⟨.int (g i j), H, I.tok _, ⟨_, rfl⟩, q⟩
theorem opB0 {f : Value → Value → Sem Value} {g : Int → Int → Bool}
    (rule : ∀ (i j : Int) (t u : Tok) (s : Shared) (Q : Value → Shared → Prop) (E : Value → Shared → Prop), Q (.bool (g i j)) s → wpAny (model X.prog X.w) X.A (f (.int i t) (.int j u)) Q E s) :
    OpR X f (rI0 fun i j => .bl (g i j)) := by
  intro pins s σ H x y v u Q I rx ry h
  obtain ⟨i, j, rfl, rfl, q⟩ := h
  obtain ⟨t, rfl⟩ := rx
  obtain ⟨t', rfl⟩ := ry
  exact rule i j t t' s _ _ ⟨.bl (g i j), H, I, rfl, q⟩

def CDiv (i j : Int) : Prop := 0 < j ∧ j < 1073741824
def CPow (i j : Int) : Prop := 0 ≤ j ∧ j ≤ 1000000 ∧ i.natAbs < 2 ^ 64
def CMul (i j : Int) : Prop := (-(2 ^ 64) < i ∧ i < 2 ^ 64) ∨ (-(2 ^ 64) < j ∧ j < 2 ^ 64)
theorem CMul.ok {i j : Int} (h : CMul i j) : IntMulOk i j := by
  rcases h with ⟨h1, h2⟩ | ⟨h1, h2⟩
  · exact .of_left (intBits_le_64 h1 h2)
  · exact .of_right (intBits_le_64 h1 h2)
theorem two_pow_nn (k : Nat) : (0 : Int) ≤ 2 ^ k := by
  rw [two_pow_cast]
  exact Int.natCast_nonneg _

theorem op_add : OpR X (binaryOp .Add) (rI0 fun i j => .int (i + j)) := opI0 fun _ _ _ _ _ _ _ q => add_int q
theorem op_mul : OpR X (binaryOp .Mult) (rI CMul fun i j => .int (i * j)) := opI fun _ _ _ _ _ _ _ hc q => mul_int q hc.ok
/-- // by a positive divisor -/
theorem op_fdiv : OpR X (binaryOp .FloorDiv) (rI CDiv fun i j => .int (i / j)) := opI fun i j _ _ _ _ _ hc q => by
  have h1 : (0 : Int) < j := hc.1
  have h2 : j < 1073741824 := hc.2
  exact floordiv_int (by omega) (by rw [Int.fdiv_eq_ediv_of_nonneg i (by omega)]; exact q) (.inl (PyProof.noPylong_small (by omega)))
/-- % by a positive divisor of any size -/
theorem op_mod : OpR X (binaryOp .Mod) (rI (fun _ j => 0 < j) fun i j => .int (i % j)) := opI fun i j _ _ _ _ _ hc q => by
  have h1 : (0 : Int) < j := hc
  exact mod_int' (by omega) (by rw [Int.fmod_eq_emod_of_nonneg i (by omega)]; exact q)
theorem op_pow : OpR X (binaryOp .Pow) (rI CPow fun i j => .int (i ^ j.toNat)) := opI fun _ _ _ _ _ _ _ hc q => pow_int_small hc.1 hc.2.1 hc.2.2 q
theorem op_shr : OpR X (binaryOp .RShift) (rI (fun _ j => 0 ≤ j) fun i j => .int (i / 2 ^ j.toNat)) := opI fun i j _ _ _ _ _ hc q =>
  rshift_int hc (by rw [Int.fdiv_eq_ediv_of_nonneg i (two_pow_nn _)]; exact q)
theorem op_and : OpR X (binaryOp .BitAnd) (rI0 fun i j => .int (Builtin.bitAnd i j)) := opI0 fun _ _ _ _ _ _ _ q => and_int q
theorem unI {f : Value → Sem Value} {g : Int → Int}
    (rule : ∀ (i : Int) (t : Tok) (s : Shared) (Q : Value → Shared → Prop) (E : Value → Shared → Prop), Q (.int (g i) s.toks) { s with toks := s.toks + 1 } → wpAny (model X.prog X.w) X.A (f (.int i t)) Q E s) :
    UnR X f (rU fun i => .int (g i)) := by
  intro pins s σ H x v Q I rx h
  obtain ⟨i, rfl, q⟩ := h
  obtain ⟨t, rfl⟩ := rx
  exact rule i t s _ _ ⟨.int (g i), H, I.tok _, ⟨_, rfl⟩, q⟩
theorem un_neg : UnR X (unaryOp .USub) (rU fun i => .int (-i)) := unI fun _ _ _ _ _ q => neg_int q
/-! ### bools among ints: n += (a < b) -/
end

/-! ### comparisons -/
/-- the scalars that == tells apart as data does -/
def scal : V → V → Bool
  | .non, .non => true | .non, .int _ => true | .int _, .non => true | .non, .bl _ => true | .bl _, .non => true | .non, .str _ => true | .str _, .non => true
  | .int _, .int _ => true | .bl _, .bl _ => true | .str _, .str _ => true | .byt _, .byt _ => true
  | .int _, .str _ => true | .str _, .int _ => true | .bl _, .str _ => true | .str _, .bl _ => true
  | _, _ => false
def rEq : R2 := fun x y H Q => scal x y = true ∧ Q (.bl (decide (x = y))) H
def rNe : R2 := fun x y H Q => scal x y = true ∧ Q (.bl (!decide (x = y))) H

theorem dec_int {i j : Int} : decide (V.int i = V.int j) = (i == j) := by
  rw [Bool.eq_iff_iff]
  simp
theorem dec_bl {i j : Bool} : decide (V.bl i = V.bl j) = (i == j) := by
  rw [Bool.eq_iff_iff]
  simp
theorem dec_str {i j : Str} : decide (V.str i = V.str j) = (i == j) := by
  rw [Bool.eq_iff_iff]
  simp
theorem dec_byt {i j : Array UInt8} : decide (V.byt i = V.byt j) = (i.toList == j.toList) := by
  rw [Bool.eq_iff_iff]
  cases i
  cases j
  simp

section
variable {X : Cx} {a b c : Expr} {ta tb tc : TE} {pos : Pos}
theorem fin_bl {pins : List (Addr × Obj)} {σ : St} {H : Hp} {s : Shared} {Q : VK} {k k' : Bool} (I : Inv X pins σ H s) (q : Q (.bl k) H) (e : k = k') : EP X pins σ Q (.bool k') s := by
  subst e
  exact ⟨.bl k, H, I, rfl, q⟩
theorem op_eq : OpR X (compareOp .Eq) rEq := by
  intro pins s σ H x y v u Q I rx ry h
  obtain ⟨hs, q⟩ := h
  cases x with
  | non =>
    cases rx
    cases y with
    | non => cases ry; exact PySem.EqNone.eq_none_none (fin_bl I q (by simp))
    | bl j => cases ry; exact PySem.EqNone.eq_none_bool (fin_bl I q (by simp))
    | int j => obtain ⟨t', rfl⟩ := ry; exact PySem.EqNone.eq_none_int (fin_bl I q (by simp))
    | str j => obtain ⟨t', rfl⟩ := ry; exact PySem.EqNone.eq_none_str (fin_bl I q (by simp))
    | _ => exact absurd (show false = true from hs) Bool.false_ne_true
  | bl i =>
    cases rx
    cases y with
    | non => cases ry; exact PySem.EqNone.eq_bool_none (fin_bl I q (by simp))
    | bl j => cases ry; exact eq_bool (fin_bl I q dec_bl)
    | str j => obtain ⟨t', rfl⟩ := ry; exact PySem.EqMixed.eq_bool_str (fin_bl I q (by simp))
    | _ => exact absurd (show false = true from hs) Bool.false_ne_true
  | int i =>
    obtain ⟨t, rfl⟩ := rx
    cases y with
    | non => cases ry; exact PySem.EqNone.eq_int_none (fin_bl I q (by simp))
    | int j => obtain ⟨t', rfl⟩ := ry; exact eq_int (fin_bl I q dec_int)
    | str j => obtain ⟨t', rfl⟩ := ry; exact PySem.EqMixed.eq_int_str (fin_bl I q (by simp))
    | _ => exact absurd (show false = true from hs) Bool.false_ne_true
  | str i =>
    obtain ⟨t, rfl⟩ := rx
    cases y with
    | non => cases ry; exact PySem.EqNone.eq_str_none (fin_bl I q (by simp))
    | bl j => cases ry; exact PySem.EqMixed.eq_str_bool (fin_bl I q (by simp))
    | int j => obtain ⟨t', rfl⟩ := ry; exact PySem.EqMixed.eq_str_int (fin_bl I q (by simp))
    | str j => obtain ⟨t', rfl⟩ := ry; exact eq_str (fin_bl I q dec_str)
    | _ => exact absurd (show false = true from hs) Bool.false_ne_true
  | byt i =>
    obtain ⟨t, rfl⟩ := rx
    cases y with
    | byt j => obtain ⟨t', rfl⟩ := ry; exact PySem.W.eq_bytes (fin_bl I q dec_byt)
    | _ => exact absurd (show false = true from hs) Bool.false_ne_true
  | _ => cases y <;> exact absurd (show false = true from hs) Bool.false_ne_true
theorem op_ne : OpR X (compareOp .NotEq) rNe := by
  intro pins s σ H x y v u Q I rx ry h
  obtain ⟨hs, q⟩ := h
  cases x with
  | non =>
    cases rx
    cases y with
    | non => cases ry; exact PySem.EqNone.ne_none_none (fin_bl I q (by simp))
    | bl j => cases ry; exact PySem.EqNone.ne_none_bool (fin_bl I q (by simp))
    | int j => obtain ⟨t', rfl⟩ := ry; exact PySem.EqNone.ne_none_int (fin_bl I q (by simp))
    | str j => obtain ⟨t', rfl⟩ := ry; exact PySem.EqNone.ne_none_str (fin_bl I q (by simp))
    | _ => exact absurd (show false = true from hs) Bool.false_ne_true
  | bl i =>
    cases rx
    cases y with
    | non => cases ry; exact PySem.EqNone.ne_bool_none (fin_bl I q (by simp))
    | bl j => cases ry; exact ne_bool (fin_bl I q (congrArg not dec_bl))
    | str j => obtain ⟨t', rfl⟩ := ry; exact PySem.EqMixed.ne_bool_str (fin_bl I q (by simp))
    | _ => exact absurd (show false = true from hs) Bool.false_ne_true
  | int i =>
    obtain ⟨t, rfl⟩ := rx
    cases y with
    | non => cases ry; exact PySem.EqNone.ne_int_none (fin_bl I q (by simp))
    | int j => obtain ⟨t', rfl⟩ := ry; exact ne_int (fin_bl I q (congrArg not dec_int))
    | str j => obtain ⟨t', rfl⟩ := ry; exact PySem.EqMixed.ne_int_str (fin_bl I q (by simp))
    | _ => exact absurd (show false = true from hs) Bool.false_ne_true
  | str i =>
    obtain ⟨t, rfl⟩ := rx
    cases y with
    | non => cases ry; exact PySem.EqNone.ne_str_none (fin_bl I q (by simp))
    | bl j => cases ry; exact PySem.EqMixed.ne_str_bool (fin_bl I q (by simp))
    | int j => obtain ⟨t', rfl⟩ := ry; exact PySem.EqMixed.ne_str_int (fin_bl I q (by simp))
    | str j => obtain ⟨t', rfl⟩ := ry; exact ne_str (fin_bl I q (congrArg not dec_str))
    | _ => exact absurd (show false = true from hs) Bool.false_ne_true
  | byt i =>
    obtain ⟨t, rfl⟩ := rx
    cases y with
    | byt j => obtain ⟨t', rfl⟩ := ry; exact PySem.W.ne_bytes (fin_bl I q (congrArg not dec_byt))
    | _ => exact absurd (show false = true from hs) Bool.false_ne_true
  | _ => cases y <;> exact absurd (show false = true from hs) Bool.false_ne_true

theorem op_lt : OpR X (compareOp .Lt) (rI0 fun i j => .bl (decide (i < j))) := opB0 fun _ _ _ _ _ _ _ q => lt_int q
theorem op_le : OpR X (compareOp .LtE) (rI0 fun i j => .bl (decide (i ≤ j))) := opB0 fun _ _ _ _ _ _ _ q => le_int q
theorem op_gt : OpR X (compareOp .Gt) (rI0 fun i j => .bl (decide (j < i))) := opB0 fun _ _ _ _ _ _ _ q => gt_int q
theorem op_ge : OpR X (compareOp .GtE) (rI0 fun i j => .bl (decide (j ≤ i))) := opB0 fun _ _ _ _ _ _ _ q => ge_int q
theorem op_lt_str : OpR X (compareOp .Lt) (fun x y H Q => ∃ i j, x = .str i ∧ y = .str j ∧ Q (.bl (decide (i.cps.toList < j.cps.toList))) H) := by
  intro pins s σ H x y v u Q I rx ry h
  obtain ⟨i, j, rfl, rfl, q⟩ := h
  obtain ⟨t, rfl⟩ := rx
  obtain ⟨t', rfl⟩ := ry
  exact lt_str (fin_bl I q rfl)
/-- two rules for one operation: by cases -/
theorem OpR.or {f : Value → Value → Sem Value} {r r' : R2} (h : OpR X f r) (h' : OpR X f r') : OpR X f (fun x y H Q => r x y H Q ∨ r' x y H Q) := by
  intro pins s σ H x y v u Q I rx ry q
  rcases q with q | q
  · exact h pins s σ H x y v u Q I rx ry q
  · exact h' pins s σ H x y v u Q I rx ry q

theorem nomark (b : Expr) {op : CmpOp} (h : op ≠ .In := by decide) (h2 : op ≠ .NotIn := by decide) : behindInMarks op b = false := by
  have e1 : (op == CmpOp.In) = false := by cases op <;> first | rfl | exact absurd rfl h
  have e2 : (op == CmpOp.NotIn) = false := by cases op <;> first | rfl | exact absurd rfl h2
  cases b <;> simp [behindInMarks, e1, e2]
/-- a comparison as a value; hm: nomark b, or (for in, not in) by with_unfolding_all rfl -/
theorem pe_cmpR {op : CmpOp} {r : R2} (ho : OpR X (compareOp op) r) (ha : PE X a ta) (hb : PE X b tb) (hm : behindInMarks op b = false) : PE X (.Compare a [op] [b] pos) (tOp r ta tb) := by
  intro pins s σ H Q I h
  exact wpAny_Compare1 (binT ha hb I h fun v u s2 x y H2 I2 rx ry q => ho pins s2 σ H2 x y v u Q I2 rx ry q) hm
/-- a reading of a value as a test -/
def tTest (t : TE) : TT := fun σ H Q => t σ H fun x H' => ∃ k, x = .bl k ∧ Q k H'
theorem pt_cmpR {op : CmpOp} {r : R2} (ho : OpR X (compareOp op) r) (ha : PE X a ta) (hb : PE X b tb) (hm : behindInMarks op b = false) : PT X (.Compare a [op] [b] pos) (tTest (tOp r ta tb)) := by
  intro pins s σ H Q I h
  refine wpAny_isTrue_Compare1 (thn (ha pins s σ H _ I h) fun v s1 ⟨x, H1, I1, r1, q1⟩ => thn (hb pins s1 σ H1 _ I1 q1) fun u s2 ⟨y, H2, I2, r2, q2⟩ =>
    thn (ho pins s2 σ H2 x y v u _ I2 r1 r2 q2) fun c s3 ⟨z, H3, I3, r3, k, e, q3⟩ => ?_) hm
  subst e
  cases r3
  exact wpAny_truthy_bool ⟨H3, I3, q3⟩
/-- a op1 b op2 c -/
def tChain (r r' : R2) (ta tb tc : TE) : TE := fun σ H Q => ta σ H fun x H1 => tb σ H1 fun y H2 => r x y H2 fun z H3 => ∃ k, z = .bl k ∧
  (if k = true then tc σ H3 fun w' H4 => r' y w' H4 Q else Q (.bl false) H3)
theorem pe_chain {op op' : CmpOp} {r r' : R2} (ho : OpR X (compareOp op) r) (ho' : OpR X (compareOp op') r') (ha : PE X a ta) (hb : PE X b tb) (hc : PE X c tc)
    (hm : lastMarks [op, op'] [b, c] = false := by with_unfolding_all rfl) : PE X (.Compare a [op, op'] [b, c] pos) (tChain r r' ta tb tc) := by
  intro pins s σ H Q I h
  refine Compare_chain (thn (ha pins s σ H _ I h) fun v s1 ⟨x, H1, I1, r1, q1⟩ => chain_link (thn (hb pins s1 σ H1 _ I1 q1) fun u s2 ⟨y, H2, I2, r2, q2⟩ =>
    thn (ho pins s2 σ H2 x y v u _ I2 r1 r2 q2) fun d s3 ⟨z, H3, I3, r3, k, e, q3⟩ => ?_)) hm
  subst e
  cases r3
  refine wpAny_truthy_bool ?_
  cases k with
  | false => exact ite_ff ⟨.bl false, H3, I3, rfl, q3⟩
  | true => exact ite_tt (chain_last (thn (hc pins s3 σ H3 _ I3 q3) fun w' s4 ⟨z', H4, I4, r4, q4⟩ => ho' pins s4 σ H4 y z' u w' Q I4 r2 r4 q4))
/-! ### truth -/
/-- a value's truth by the abstract heap -/
def TruV (K : PySem.W.Frag) (x : V) (H : Hp) (k : Bool) : Prop :=
  match x with
  | .non => k = false
  | .bl b => k = b
  | .int i => k = (i != 0)
  | .str y => y.length ≤ sizeLine ∧ k = ((y.length : Int) != 0)
  | .byt y => y.size ≤ sizeLine ∧ k = ((y.size : Int) != 0)
  | .ref p => (∃ xs, SqL K H p xs ∧ k = !xs.isEmpty) ∨ (∃ xs, SqT K H p xs ∧ k = !xs.isEmpty) ∨ ∃ kvs, H p = some (.dK kvs) ∧ k = !kvs.isEmpty
  | _ => False
theorem isEmpty_kv {κ : Type} {kvs : List (κ × V)} {vs : List (κ × Value)} (r : KV kvs vs) : (!vs.isEmpty) = !kvs.isEmpty := by
  cases r <;> rfl
theorem isEmpty_of {xs : List V} {its : List Value} (r : Vals xs its) : (!its.toArray.isEmpty) = !xs.isEmpty := by
  cases r <;> simp
theorem line63 : (sizeLine : Nat) < 2 ^ 63 := by rw [sizeLine_eq]; decide
theorem tru_ok : TruR X (fun x H Q => ∃ k, TruV X.K x H k ∧ Q k H) := by
  intro pins s σ H x v Q I rx h
  obtain ⟨k, e, q⟩ := h
  have hl := line63
  have hs : sizeLine = 16777216 := sizeLine_eq
  cases x with
  | non =>
    cases rx
    have e' : k = false := e
    subst e'
    exact truthy_none ⟨H, I, q⟩
  | bl b =>
    cases rx
    have e' : k = b := e
    subst e'
    exact wpAny_truthy_bool ⟨H, I, q⟩
  | int i =>
    obtain ⟨t, rfl⟩ := rx
    have e' : k = (i != 0) := e
    subst e'
    exact PySem.P.truthy_int ⟨H, I, q⟩
  | str y =>
    obtain ⟨t, rfl⟩ := rx
    obtain ⟨hy, e'⟩ : y.length ≤ sizeLine ∧ k = ((y.length : Int) != 0) := e
    subst e'
    exact PySem.P.truthy_str (by omega) ⟨H, I.tok _, q⟩
  | byt y =>
    obtain ⟨t, rfl⟩ := rx
    obtain ⟨hy, e'⟩ : y.size ≤ sizeLine ∧ k = ((y.size : Int) != 0) := e
    subst e'
    exact PySem.W.truthy_bytes (by omega) ⟨H, I.tok _, q⟩
  | ref p =>
    cases rx
    have e' : (∃ xs, SqL X.K H p xs ∧ k = !xs.isEmpty) ∨ (∃ xs, SqT X.K H p xs ∧ k = !xs.isEmpty) ∨ ∃ kvs, H p = some (.dK kvs) ∧ k = !kvs.isEmpty := e
    rcases e' with ⟨xs, hx, e'⟩ | ⟨xs, hx, e'⟩ | ⟨kvs, hx, e'⟩
    · subst e'
      obtain ⟨its, r, pl, hz⟩ := I.list hx
      have hlen := r.length
      exact wpAny_truthy_list pl.isList (by simp only [List.size_toArray]; omega) ⟨H, I.tok _, by rw [isEmpty_of r]; exact q⟩
    · subst e'
      obtain ⟨its, r, pl, hz⟩ := I.tuple hx
      have hlen := r.length
      exact truthy_tuple pl (by simp only [List.size_toArray]; omega) ⟨H, I.tok _, by rw [isEmpty_of r]; exact q⟩
    · subst e'
      obtain ⟨hz, hS, vs, r, m⟩ : kvs.length ≤ sizeLine ∧ (p == sysModules) = false ∧ ∃ vs, KV kvs vs ∧ s.heap.DictOf (mixKind X.prog X.w) p vs := I.hok p _ hx
      have hlen : kvs.length = vs.length := Paired.length r
      exact wpAny_truthy_dict hS m (by omega) ⟨H, I.tok _, by rw [isEmpty_kv r]; exact q⟩
  | _ => exact (show False from e).elim
/-- any expression whose test is its value's truth (a name, a call, a subscript, a field ..: he by fun _ => rfl) -/
theorem pt_truth (ha : PE X a ta) (he : ∀ whole, isTrue a X.env whole = (do let v ← whole; standAt a.pos; holding [v] (truthy v))) :
    PT X a (fun σ H Q => ta σ H fun x H' => ∃ k, TruV X.K x H' k ∧ Q k H') := by
  intro pins s σ H Q I h
  exact isTrue_plain (thn (ha pins s σ H _ I h) fun v s1 ⟨x, H1, I1, r1, q1⟩ => tru_ok pins s1 σ H1 x v Q I1 r1 q1) (he _)

/-! ### strs and bytes -/
theorem op_add_str : OpR X (binaryOp .Add) (fun x y H Q => ∃ i j, x = .str i ∧ y = .str j ∧ i.length + j.length ≤ sizeLine ∧ Q (.str (i ++ j)) H) := by
  intro pins s σ H x y v u Q I rx ry h
  obtain ⟨i, j, rfl, rfl, hz, q⟩ := h
  obtain ⟨t, rfl⟩ := rx
  obtain ⟨t', rfl⟩ := ry
  exact add_str (fun t' tk => ⟨.str (i ++ j), H, I.tok _, ⟨_, rfl⟩, q⟩) hz
/-! ### scalar builtins, by CallR -/
theorem vals1 {x : V} {us : List Value} (r : Vals [x] us) : ∃ u, us = [u] ∧ RelV x u := by
  cases r with
  | cons r1 r2 => cases r2; exact ⟨_, rfl, r1⟩
theorem call_int1 : CallR X (.type "int") (fun xs H Q => (∃ i, xs = [.int i] ∧ Q (.int i) H) ∨ ∃ k, xs = [.bl k] ∧ Q (.int (if k then 1 else 0)) H) := by
  intro pins s σ H xs us Q I r h
  rcases h with ⟨i, rfl, q⟩ | ⟨k, rfl, q⟩
  · obtain ⟨u, rfl, t, rfl⟩ := vals1 r
    exact call_int_int ⟨.int i, H, I, ⟨_, rfl⟩, q⟩
  · obtain ⟨u, rfl, r1⟩ := vals1 r
    cases r1
    exact call_int_bool ⟨.int (if k then 1 else 0), H, I.tok _, ⟨_, rfl⟩, q⟩
theorem call_str_int : CallR X (.type "str") (fun xs H Q => ∃ i, xs = [.int i] ∧ i.natAbs.log2 < 1920 ∧ Q (.str (toString i)) H) := by
  intro pins s σ H xs us Q I r h
  obtain ⟨i, rfl, hz, q⟩ := h
  obtain ⟨u, rfl, t, rfl⟩ := vals1 r
  exact PySem.P.str_of_int hz ⟨.str _, H, I.tok _, ⟨_, rfl⟩, q⟩
end
end L2

namespace L2
open PySem PySem.Spec PyProof.Rows

/-! ### an instance, its attributes a map -/
structure ObjM (h : Heap) (x dx C : Addr) (mA : Str → Option Value) : Prop where
  obj : h.get? x = some (PySem.W.instObj C dx)
  ns : h.Ns1 dx mA
  ne : dx ≠ x

theorem lookIn_ns {h : Heap} {dx : Addr} {mA : Str → Option Value} (n : h.Ns1 dx mA) : ∃ od, h.get? dx = some od ∧ ∀ name, PySem.W.lookIn name od = some (mA name) := by
  obtain ⟨o, es, ep, ho, hd, hk, _, hm⟩ := n
  refine ⟨o, ho, fun name => ?_⟩
  have e := hm name
  unfold nsFind findBy at e
  rw [← Array.find?_toList] at e
  unfold PySem.W.lookIn
  rw [hd]
  dsimp only
  split
  · rename_i y q
    rw [q] at e
    exact congrArg some e
  · rename_i q
    rw [q] at e
    have a : es.toList.any (·.refKey) = false := by
      rw [List.any_eq_false]
      intro y hy
      obtain ⟨z, t, hkey⟩ := hk y (Array.mem_toList_iff.mp hy)
      simp [DictEntry.refKey, hkey]
    have a' : ¬ es.toList.any (·.refKey) = true := by rw [a]; exact Bool.false_ne_true
    rw [if_neg a']
    exact congrArg some e

theorem ObjM.look {h : Heap} {x dx C : Addr} {mA : Str → Option Value} (I : ObjM h x dx C mA) : ∃ od, PySem.W.InstAt h x (PySem.W.instObj C dx) C (some od) ∧ ∀ name, PySem.W.lookIn name od = some (mA name) :=
  let ⟨od, ho, hl⟩ := lookIn_ns I.ns
  ⟨od, ⟨I.obj, rfl, rfl, ho⟩, hl⟩

section
variable {prog : Program} {w : World} {A : Around} {E : Value → Shared → Prop} {s : Shared} {K : PySem.W.Frag} {x dx C f : Addr} {mA : Str → Option Value} {name : Str} {v : Value}

end

/-! ### the attributes as a list of pairs -/
theorem RelO.some_of {v : V} {o : Option Value} (r : RelO (some v) o) : ∃ u, o = some u ∧ RelV v u := by
  cases o with
  | none => exact (show False from r).elim
  | some u => exact ⟨u, rfl, r⟩
section
variable {P : Program} {w : World} {H H' : Hp} {h h' : Heap} {a C dx : Addr} {fs fs' : List (Str × V)}
end

/-! ### what of the text a class must have -/
structure Cls (K : PySem.W.Frag) (C : Addr) : Prop where
  pg : PySem.W.plainGet K C Str.empty = true
  hd : PySem.W.hasDictIn K C = true
  po : PySem.W.plainOver K C = true
  sa : PySem.W.findIn K (.ref C) "__setattr__" = some (some (.builtin "object.__setattr__"))
theorem Cls.get {K : PySem.W.Frag} {C : Addr} (c : Cls K C) (f : Str) : PySem.W.plainGet K C f = true := c.pg
/-- a constant of the class -/
structure Con (K : PySem.W.Frag) (C : Addr) (f : Str) (v : V) (u : Value) : Prop where
  at_ : PySem.W.findIn K (.ref C) f = some (some u)
  rel : RelV v u
  get : PySem.W.specialIn K u "__get__" = some none
  cp : PySem.W.copiedNames.contains f = false
/-- a method: a plain def of the class or of one above it -/
structure Meth (K : PySem.W.Frag) (C : Addr) (m : Str) (f : Addr) : Prop where
  at_ : PySem.W.findIn K (.ref C) m = some (some (.ref f))
  fn : PySem.W.isFn K (.ref f) = true
  kp : PySem.W.keepIn K (.ref f) = true

section
variable {X : Cx} {pins : List (Addr × Obj)} {σ : St} {H : Hp} {s : Shared} {a C dx : Addr} {fs : List (Str × V)} {f : Str} {v : V} {A : Around} {E : Value → Shared → Prop}

/-- a new instance, tracked, without attributes -/
theorem Inv.made (I : Inv X pins σ H s) : Inv X pins σ (upd (upd H s.heap.objs.size (.own (s.heap.objs.size + 1))) (s.heap.objs.size + 1) (.ins C s.heap.objs.size []))
    { s with heap := (s.heap.push PySem.W.emptyDict).push (PySem.W.instObj C s.heap.objs.size) } := by
  have e1 : (s.heap.push PySem.W.emptyDict).get? s.heap.objs.size = some PySem.W.emptyDict := Heap.get?_push_size s.heap rfl
  have e2 : ((s.heap.push PySem.W.emptyDict).push (PySem.W.instObj C s.heap.objs.size)).get? (s.heap.objs.size + 1) = some (PySem.W.instObj C s.heap.objs.size) := by
    have := Heap.get?_push_size (s.heap.push PySem.W.emptyDict) (o := PySem.W.instObj C s.heap.objs.size) rfl
    rwa [Heap.size_push] at this
  have e3 : (s.heap.push PySem.W.emptyDict).Ns s.heap.objs.size (fun _ => none) := ⟨PySem.W.emptyDict, #[], _, e1, rfl, (fun e he => absurd he (by simp)), fun _ => rfl⟩
  have I1 := I.laid (a := s.heap.objs.size) (o := .own (s.heap.objs.size + 1)) (h' := s.heap.push PySem.W.emptyDict) (t' := s.toks) (fun b u q => Heap.get?_push_of_some _ q) (Nat.le_refl _) ⟨_, e1⟩
  refine I1.laid (a := s.heap.objs.size + 1) (o := .ins C s.heap.objs.size []) (t' := s.toks) (fun b u q => Heap.get?_push_of_some _ q) (Nat.le_of_eq (Heap.size_push _ _)) ?_
  have ne : s.heap.objs.size ≠ s.heap.objs.size + 1 := Nat.ne_of_lt (Nat.lt_succ_self _)
  refine ⟨by rw [upd_ne ne, upd_same], Nat.zero_le _, ne, e2, fun _ => none, (Heap.Ns1.of_empty e3).at fun o q => Heap.get?_push_of_some _ q, fun _ => True.intro, fun y hy => absurd rfl hy⟩

end

/-! ### readings and rules -/
section
variable {X : Cx} {o e value : Expr} {f : Str} {pos pos' tpos : Pos} {ta tv : TE}
end

/-! ### isinstance -/
section
variable {X : Cx} {pins : List (Addr × Obj)} {σ : St} {H : Hp} {s : Shared} {A : Around} {E : Value → Shared → Prop} {Q : Value → Shared → Prop} {c : Value} {b : Bool}
/-- the type of a value, as the fragment's deciders take it; for an instance its class -/
inductive TyOf (K : PySem.W.Frag) (H : Hp) : V → Value → Prop where
  | non : TyOf K H .non (.type "NoneType")
  | bl (x : Bool) : TyOf K H (.bl x) (.type "bool")
  | int (i : Int) : TyOf K H (.int i) (.type "int")
  | str (x : Str) : TyOf K H (.str x) (.type "str")
  | flt (x : UInt64) : TyOf K H (.flt x) (.type "float")
  | lst {a : Addr} {xs : List V} (e : H a = some (.lst xs)) : TyOf K H (.ref a) (.type "list")
  | frz {a : Addr} {o : Obj} {xs : List V} (e : H a = some (.frz o (.lst xs))) : TyOf K H (.ref a) (.type "list")
  | tup {a : Addr} {xs : List V} (e : H a = some (.tup xs)) : TyOf K H (.ref a) (.type "tuple")
  | dK {a : Addr} {kvs : List (Key × V)} (e : H a = some (.dK kvs)) : TyOf K H (.ref a) (.type "dict")
  | dT {a : Addr} {kvs : List (List Key × V)} (e : H a = some (.dT kvs)) : TyOf K H (.ref a) (.type "dict")
  | ins {a C dx : Addr} {fs : List (Str × V)} (e : H a = some (.ins C dx fs)) (cl : Cls K C) (ha : PySem.W.findIn K (.ref C) "__class__" = some (some (.builtin "object.__class__")))
      (hn : PySem.W.specialIn K (.builtin "object.__class__") "__get__" = some (some (.builtin "getset_descriptor.__get__"))) (htk : PySem.W.takesIn K (.builtin "object.__class__") = some true)
      (hm : PySem.W.mroIn K C (.type "object") = some true) : TyOf K H (.ref a) (.ref C)
end
end L2

namespace L2
open PySem PySem.Spec PyProof.Rows

/-! ### room -/
structure Room (k : Nat) (A : Around) : Prop where
  hd : A.handled = none
  dp : A.depth + 3 * k + 5 < recursionLimit
  un : A.units + 16 * k + 200 < cLine
  gd : A.guards = some []
theorem Room.mono {j k : Nat} {A : Around} (r : Room k A) (h : j ≤ k) : Room j A := ⟨r.hd, by have := r.dp; omega, by have := r.un; omega, r.gd⟩
theorem Room.deeper {k : Nat} {A : Around} (r : Room (k + 1) A) (env : Env) : Room k (A.deeper env) :=
  ⟨r.hd, by have := r.dp; show A.depth + 1 + 3 * k + 5 < _; omega, by have := r.un; show A.units + 3 + 16 * k + 200 < _; omega, r.gd⟩
theorem Room.in1 {k : Nat} {A : Around} (r : Room (k + 1) A) : Room k A.in1 :=
  ⟨r.hd, by have := r.dp; show A.depth + 3 * k + 5 < _; omega, by have := r.un; show A.units + 1 + 16 * k + 200 < _; omega, r.gd⟩
theorem make_depth {A : Around} {C : Addr} {us : List Value} {kw : List (Str × Value)} : (A.under (.builtin "type.__call__" ⟨.ref C :: us, kw⟩)).depth = A.depth + 1 := by
  first | rfl | simp [Around.under, Code.weight, Code.isCreation, Code.isGuard, Code.isCaller, Code.frames, Code.isFrame, guardIds]
theorem make_units {A : Around} {C : Addr} {us : List Value} {kw : List (Str × Value)} : (A.under (.builtin "type.__call__" ⟨.ref C :: us, kw⟩)).units = A.units + 1 := by
  first | rfl | simp [Around.under, Code.cUnits, Code.frames, Code.isFrame]
theorem Room.make {k : Nat} {A : Around} (r : Room (k + 1) A) (C : Addr) (us : List Value) (kw : List (Str × Value)) : Room k (A.under (.builtin "type.__call__" ⟨.ref C :: us, kw⟩)) :=
  ⟨r.hd, by have := r.dp; rw [make_depth]; omega, by have := r.un; rw [make_units]; omega, by have := r.gd; first | exact this | simpa [Around.under, Code.isGuard, guardIds] using this⟩
theorem Room.depth {k : Nat} {A : Around} (r : Room k A) : A.depth < recursionLimit := by have := r.dp; omega
theorem Room.units {k : Nat} {A : Around} (r : Room k A) : A.units + 64 < cLine := by have := r.un; omega
theorem Room.units0 {k : Nat} {A : Around} (r : Room k A) : A.units < cLine := by have := r.un; omega

/-! ### argument lists and displays -/
def tNil : TA := fun _ H Q => Q [] H
def tCons (ta : TE) (tr : TA) : TA := fun σ H Q => ta σ H fun x H1 => tr σ H1 fun xs H2 => Q (x :: xs) H2
section
variable {X : Cx} {e : Expr} {es : List Expr} {te : TE} {t : TA} {pos : Pos}
theorem pa_nil : PA X [] tNil := fun _ _ _ _ H Q I h => Calls.spliced_nil ⟨[], H, I, .nil, h⟩
theorem pa_cons (ha : PE X e te) (hr : PA X es t) (hs : starEach (e :: es) X.env = (false, eval e X.env) :: starEach es X.env := by rfl) : PA X (e :: es) (tCons te t) := by
  intro pos pins s σ H Q I h
  rw [hs]
  show wpAny _ _ (spliced ((false, eval e X.env) :: backTo pos (starEach es X.env))) _ _ s
  refine Calls.spliced_cons (thn (ha pins s σ H _ I h) fun u s1 ⟨x, H1, I1, r1, q1⟩ => ?_)
  exact thn (hr pos pins s1 σ H1 _ I1 q1) fun us s2 ⟨xs, H2, I2, r2, q2⟩ => ⟨x :: xs, H2, I2, .cons r1 r2, q2⟩

/-- a tuple, a list of written items -/
def tTup (t : TA) : TE := fun σ H Q => t σ H fun xs H1 => xs.length ≤ sizeLine ∧ ∀ p, H1 p = none → Q (.ref p) (upd H1 p (.tup xs))
def tLst (t : TA) : TE := fun σ H Q => t σ H fun xs H1 => xs.length ≤ sizeLine ∧ ∀ p, H1 p = none → Q (.ref p) (upd H1 p (.lst xs))
theorem pe_tup {x1} (h : PA X es t) : PE X (.Tuple es x1 pos) (tTup t) := by
  intro pins s σ H Q I hq
  refine wpAny_Tuple_spliced (thn (h pos pins s σ H _ I hq) fun us s1 ⟨xs, H1, I1, r, z, q⟩ => ⟨by rw [← r.length]; exact z, ?_⟩)
  have hf : H1 s1.heap.objs.size = none := I1.hok.fresh (Nat.le_refl _)
  refine ⟨.ref s1.heap.objs.size, upd H1 s1.heap.objs.size (.tup xs), I1.laid (t' := s1.toks) (fun b u e => Heap.get?_push_of_some _ e) (Nat.le_refl _) ?_, rfl, q _ hf⟩
  exact ⟨z, us, r, ⟨_, Heap.get?_push_size _ rfl, rfl, _, rfl⟩, ND.new _ _ rfl⟩
theorem pe_lst (h : PA X es t) : PE X (.List es pos) (tLst t) := by
  intro pins s σ H Q I hq
  refine wpAny_List_spliced (thn (h pos pins s σ H _ I hq) fun us s1 ⟨xs, H1, I1, r, z, q⟩ => ⟨by rw [← r.length]; exact z, ?_⟩)
  have hf : H1 s1.heap.objs.size = none := I1.hok.fresh (Nat.le_refl _)
  refine ⟨.ref s1.heap.objs.size, upd H1 s1.heap.objs.size (.lst xs), I1.laid (t' := s1.toks) (fun b u e => Heap.get?_push_of_some _ e) (Nat.le_refl _) ?_, rfl, q _ hf⟩
  exact ⟨z, us, 0, r, Heap.get?_push_size _ rfl⟩
end

/-! ### what a def promises -/
/-- a def's promise: the bound arguments in the parameters' order, the heap, the wanted end, the wanted exception -/
abbrev Sp := List V → Hp → VK → XK → Prop
/-- how an exception lies behind a call (file 08 gives it): the callers' frames, abstract heap and state ahead of the call, the wish, the exception, the state -/
abbrev CXT := List Env → Hp → Shared → XK → Value → Shared → Prop

/-- the state at a call -/
structure Env0 (P : Program) (w : World) (K : PySem.W.Frag) (mg : Str → Option Value) (base : Heap) (A : Around) (outer : List Env) (s : Shared) (H : Hp) : Prop where
  frames : A.frames = some outer
  mod : Mod K mg base
  bs : ∀ b o, base.get? b = some o → s.heap.get? b = some o ∧ H b = none
  bsz : base.objs.size ≤ s.heap.objs.size
  funs : s.heap.FunFrames base outer
  frf : ∀ b ∈ frs outer, H b = none
  hok : HOk P w H s.heap
  bare : AllBare s.gens
/-- a call's end -/
def CE (outer : List Env) (P : Program) (w : World) (H : Hp) (s : Shared) (Q : VK) (u : Value) (s' : Shared) : Prop :=
  ∃ v H', s'.os = s.os ∧ AllBare s'.gens ∧ Un (frs outer) [] H H' s.heap s'.heap ∧ HOk P w H' s'.heap ∧ RelV v u ∧ Q v H'
def CR (CX : CXT) (outer : List Env) (P : Program) (w : World) (H : Hp) (s : Shared) (Q : VK) (E : XK) (r : Result) (s' : Shared) : Prop :=
  match r with
  | .ok (.ret u) => CE outer P w H s Q u s'
  | .ok _ => False
  | .error e => CX outer H s E e s'
structure FnOk (P : Program) (w : World) (K : PySem.W.Frag) (mg : Str → Option Value) (base : Heap) (CX : CXT) (k : Nat) (f : Addr) (fd : FuncData) (ps : List Str) (sp : Sp) : Prop where
  len : ∀ vs H Q E, sp vs H Q E → vs.length = ps.length
  run : ∀ (A : Around) (outer : List Env) (s : Shared) (H : Hp) (args : Args) (us : List Value) (vs : List V) (Q : VK) (E : XK), Room k A → Env0 P w K mg base A outer s H → BindsTo s fd args (ps.zip us) → Vals vs us → sp vs H Q E →
    codeAny (model P w) A (.call (.ref f) args) (CR CX outer P w H s Q E) s
theorem FnOk.mono {P : Program} {w : World} {K : PySem.W.Frag} {mg : Str → Option Value} {base : Heap} {CX : CXT} {j k : Nat} {f : Addr} {fd : FuncData} {ps : List Str} {sp : Sp} (F : FnOk P w K mg base CX j f fd ps sp) (h : j ≤ k) :
    FnOk P w K mg base CX k f fd ps sp := ⟨F.len, fun A outer s H args us vs Q E hr => F.run A outer s H args us vs Q E (hr.mono h)⟩
/-- a weaker promise -/
theorem FnOk.imp {P : Program} {w : World} {K : PySem.W.Frag} {mg : Str → Option Value} {base : Heap} {CX : CXT} {k : Nat} {f : Addr} {fd : FuncData} {ps : List Str} {sp sp' : Sp} (F : FnOk P w K mg base CX k f fd ps sp)
    (h : ∀ vs H Q E, sp' vs H Q E → sp vs H Q E) : FnOk P w K mg base CX k f fd ps sp' :=
  ⟨fun vs H Q E q => F.len vs H Q E (h _ _ _ _ q), fun A outer s H args us vs Q E hr he hb hv hs => F.run A outer s H args us vs Q E hr he hb hv (h _ _ _ _ hs)⟩

theorem Env0.make {P : Program} {w : World} {K : PySem.W.Frag} {mg : Str → Option Value} {base : Heap} {A : Around} {outer : List Env} {s : Shared} {H : Hp} (e : Env0 P w K mg base A outer s H) (C : Addr) (us : List Value) (kw : List (Str × Value)) :
    Env0 P w K mg base (A.under (.builtin "type.__call__" ⟨.ref C :: us, kw⟩)) outer s H := ⟨by first | exact e.frames | (simpa [Around.under, Code.envs, Code.isFrame, pushEnvs] using e.frames), e.mod, e.bs, e.bsz, e.funs, e.frf, e.hok, e.bare⟩
theorem Env0.in1 {P : Program} {w : World} {K : PySem.W.Frag} {mg : Str → Option Value} {base : Heap} {A : Around} {outer : List Env} {s : Shared} {H : Hp} (e : Env0 P w K mg base A outer s H) :
    Env0 P w K mg base A.in1 outer s H := ⟨e.frames, e.mod, e.bs, e.bsz, e.funs, e.frf, e.hok, e.bare⟩

section
variable {X : Cx} {pins : List (Addr × Obj)} {σ : St} {H : Hp} {s s' : Shared}
/-- from a body: what a callee wants -/
theorem Inv.env0 (I : Inv X pins σ H s) : Env0 X.prog X.w X.K X.mg X.base X.A X.stack s H :=
  ⟨I.ok.frames, I.ok.mod, I.bs, Nat.le_trans I.ok.bsz I.sz, I.stack, I.stkFree, I.hok, I.bare⟩
/-- behind a call -/
theorem Inv.after {Q : VK} {u : Value} (I : Inv X pins σ H s) (h : CE X.stack X.prog X.w H s Q u s') : EP X pins σ Q u s' := by
  obtain ⟨v, H', os, bare, un, hok, r, q⟩ := h
  obtain ⟨hh, g, d, t, os'⟩ := s'
  obtain rfl : os' = s.os := os
  exact ⟨v, H', I.call (h' := hh) (g' := g) (d' := d) (t' := t) (ch := []) un hok bare (fun b z => absurd z (by simp)), r, q⟩
end

/-! ### calls -/
/-- f(..): the written arguments, then the defaults dvs; E: what is wanted of an exception -/
def tCall (sp : Sp) (dvs : List V) (E : XK) (t : TA) : TE := fun σ H Q => t σ H fun vs H1 => sp (vs ++ dvs) H1 Q E
/-- how the parameters are bound: us the positional arguments, kw the keywords' values by name, ds the defaults that fill up -/
def Binds (K : PySem.W.Frag) (fd : FuncData) (ps : List Str) (ds : List Value) : Prop :=
  ∀ (s : Shared) (us : List Value), K.In s.heap → (us ++ ds).length = ps.length → BindsTo s fd ⟨us, []⟩ (ps.zip (us ++ ds))
/-- every parameter is given -/
theorem Binds.all {K : PySem.W.Frag} {fd : FuncData} {ps : List Str} (h : ∀ us : List Value, us.length = ps.length → bindArgs fd ⟨us, []⟩ = pure (ps.zip us)) : Binds K fd ps [] := fun s us _ hl => by
  rw [List.append_nil] at hl ⊢
  exact .of_eq (h us hl)

/-- an exception of a callee reaches what this body wants of exceptions -/
def Passes (CX : CXT) (X : Cx) (E : XK) : Prop := ∀ (pins : List (Addr × Obj)) (σ : St) (H : Hp) (s : Shared) (e : Value) (s' : Shared), Inv X pins σ H s → CX X.stack H s E e s' → X.xe e s'

section
variable {X : Cx} {CX : CXT} {k : Nat} {f C : Addr} {fd : FuncData} {ps : List Str} {sp : Sp} {dvs : List V} {ds : List Value} {E : XK} {x m : Str} {p pos apos : Pos} {e o : Expr} {es : List Expr} {ta : TE} {t : TA}

/-- the callee runs -/
theorem run_fn {pins : List (Addr × Obj)} {σ : St} {H : Hp} {s : Shared} {Q : VK} {us : List Value} {vs : List V} (F : FnOk X.prog X.w X.K X.mg X.base CX k f fd ps sp) (hr : Room k X.A) (hb : Binds X.K fd ps ds) (hd : Vals dvs ds) (hx : Passes CX X E)
    (I : Inv X pins σ H s) (r : Vals vs us) (h : sp (vs ++ dvs) H Q E) : wpAny (model X.prog X.w) X.A (call (.ref f) us) (EP X pins σ Q) X.xe s := by
  have r2 : Vals (vs ++ dvs) (us ++ ds) := r.append hd
  have hl : (us ++ ds).length = ps.length := by rw [← r2.length]; exact F.len _ _ _ _ h
  refine wpAny_call (codeAny_mono (F.run X.A X.stack s H ⟨us, []⟩ (us ++ ds) (vs ++ dvs) Q E hr I.env0 (hb s us I.kIn hl) r2 h) fun r s' hq => ?_)
  cases r with
  | error e => exact hx pins σ H s e s' I hq
  | ok fl =>
    cases fl with
    | ret u => exact I.after hq
    | next => exact False.elim hq
    | brk => exact False.elim hq
    | cont => exact False.elim hq

theorem pe_call (F : FnOk X.prog X.w X.K X.mg X.base CX k f fd ps sp) (hr : Room k X.A) (hg : Gl X x) (hm : X.mg x = some (.ref f)) (hk : PySem.W.keepIn X.K (.ref f) = true) (hb : Binds X.K fd ps ds) (hd : Vals dvs ds) (hx : Passes CX X E)
    (ha : PA X (e :: es) t) (hdb : (x == ("__debug__" : Str)) = false := by decide) (he : starEach (e :: es) X.env = (false, eval e X.env) :: starEach es X.env := by rfl) (hpl : (backTo pos (starEach es X.env)).any (·.1) = false := by rfl) :
    PE X (.Call (.Name x p) (e :: es) [] pos) (tCall sp dvs E t) := by
  intro pins s σ H Q I h
  refine wpAny_Call_Name_kw (ld_glob I hg hm ?_ hdb)
  refine PySem.W.callWith_K (h₀ := X.base) I.ok.mod.kin hk (thn (ha pos pins s σ H _ I h) fun us s1 ⟨vs, H1, I1, r, q⟩ => ⟨I1.kIn, ?_⟩) he hpl
  exact run_fn F hr hb hd hx I1 r q
/-- what a class must have to be made -/
structure Mk (K : PySem.W.Frag) (C f : Addr) : Prop where
  makes : PySem.W.makesIn K C = true
  init : PySem.W.findIn K (.ref C) "__init__" = some (some (.ref f))
  fn : PySem.W.isFn K (.ref f) = true
  kp : PySem.W.keepIn K (.ref C) = true

end

/-! ### keywords -/
section
variable {X : Cx} {CX : CXT} {k : Nat} {f C : Addr} {fd : FuncData} {ps ks : List Str} {sp : Sp} {E : XK} {x m : Str} {p pos apos kpos : Pos} {e o : Expr} {es : List Expr} {kws : List Keyword} {te ta : TE} {t tk : TA} {nm : Option Str}
/-- how a call with keywords binds: g puts the positional values us and the keywords' values ws (names ks) in the parameters' order, defaults among them -/
structure KBinds (K : PySem.W.Frag) (fd : FuncData) (ps ks : List Str) (g : List Value → List Value → List Value) (gV : List V → List V → List V) : Prop where
  to : ∀ (s : Shared) (us ws : List Value), K.In s.heap → (g us ws).length = ps.length → BindsTo s fd ⟨us, ks.zip ws⟩ (ps.zip (g us ws))
  rel : ∀ {vs : List V} {us : List Value} {zs : List V} {ws : List Value}, Vals vs us → Vals zs ws → Vals (gV vs zs) (g us ws)
variable {g : List Value → List Value → List Value} {gV : List V → List V → List V}
end

/-! ### a def's body keeps its promise -/
/-- names: the parameters first -/
structure FnScope (N P : List Str) (sc : Scope) : Prop where
  kind : sc.kind = .function
  co : sc.isCoroutine = false
  gen : sc.isGenerator = false
  nd : N.Nodup
  pre : N.take P.length = P
  par : ∀ x ∈ P, sc.names.lookup x = some .local ∨ sc.names.lookup x = some .cell
  nofree : ∀ y ∈ sc.names, y.2 ≠ .free

theorem bindL_out {kindOf : Str → Option NameKind} {x : Str} : ∀ {binds : List (Str × Value)} {m : Str → Option Value}, (∀ v, (x, v) ∉ binds) → bindL kindOf binds m x = m x
  | [], _, _ => rfl
  | (n, v) :: r, m, h => by
    unfold bindL
    rw [bindL_out fun w hw => h w (List.mem_cons_of_mem _ hw)]
    split
    · have : x ≠ n := by rintro rfl; exact h v List.mem_cons_self
      simp [this]
    · rfl
theorem bindC_out {kindOf : Str → Option NameKind} {x : Str} : ∀ {binds : List (Str × Value)} {m : Str → Option Value}, (∀ v, (x, v) ∉ binds) → bindC kindOf binds m x = m x
  | [], _, _ => rfl
  | (n, v) :: r, m, h => by
    unfold bindC
    rw [bindC_out fun w hw => h w (List.mem_cons_of_mem _ hw)]
    split
    · rfl
    · have : x ≠ n := by rintro rfl; exact h v List.mem_cons_self
      simp [this]
theorem bindL_get {kindOf : Str → Option NameKind} {x : Str} {v : Value} : ∀ {P : List Str} {vs : List Value} {i : Nat} {m : Str → Option Value}, P.Nodup → P[i]? = some x → vs[i]? = some v → kindOf x = some .local →
    bindL kindOf (P.zip vs) m x = some v
  | [], _, _, _, _, h, _, _ => by simp at h
  | _ :: _, [], _, _, _, _, h, _ => by simp at h
  | p :: P, w :: vs, 0, m, nd, h1, h2, hk => by
    simp at h1 h2; subst h1; subst h2
    show bindL kindOf ((p, w) :: P.zip vs) m p = _
    unfold bindL
    rw [bindL_out fun v hv => (List.nodup_cons.mp nd).1 (List.of_mem_zip hv).1, if_pos hk]
    simp
  | p :: P, w :: vs, i + 1, m, nd, h1, h2, hk => by
    show bindL kindOf ((p, w) :: P.zip vs) m x = _
    unfold bindL
    exact bindL_get (i := i) (List.nodup_cons.mp nd).2 (by simpa using h1) (by simpa using h2) hk
theorem bindC_get {kindOf : Str → Option NameKind} {x : Str} {v : Value} : ∀ {P : List Str} {vs : List Value} {i : Nat} {m : Str → Option Value}, P.Nodup → P[i]? = some x → vs[i]? = some v → kindOf x ≠ some .local →
    bindC kindOf (P.zip vs) m x = some v
  | [], _, _, _, _, h, _, _ => by simp at h
  | _ :: _, [], _, _, _, _, h, _ => by simp at h
  | p :: P, w :: vs, 0, m, nd, h1, h2, hk => by
    simp at h1 h2; subst h1; subst h2
    show bindC kindOf ((p, w) :: P.zip vs) m p = _
    unfold bindC
    rw [bindC_out fun v hv => (List.nodup_cons.mp nd).1 (List.of_mem_zip hv).1, if_neg hk]
    simp
  | p :: P, w :: vs, i + 1, m, nd, h1, h2, hk => by
    show bindC kindOf ((p, w) :: P.zip vs) m x = _
    unfold bindC
    exact bindC_get (i := i) (List.nodup_cons.mp nd).2 (by simpa using h1) (by simpa using h2) hk

/-- the names' values at the entry -/
def start (N : List Str) (vs : List V) : St := vs.map some ++ List.replicate (N.length - vs.length) none

/-- the context of a def's body, at its entry; an exception leaves the frame, then lies as CX says -/
def cxOf (CX : CXT) (P : Program) (w : World) (K : PySem.W.Frag) (mg : Str → Option Value) (base : Heap) (N : List Str) (qual : Str) (scope : Scope) (f : Addr) (cd : Value) (A : Around) (outer : List Env) (s : Shared) (H : Hp) (E : XK) : Cx where
  prog := P
  w := w
  K := K
  mg := mg
  base := base
  A := A.deeper (envOfC qual scope s.heap.objs.size f cd)
  N := N
  s_0 := s
  H_0 := H
  env := envOfC qual scope s.heap.objs.size f cd
  outer := outer
  stack := envOfC qual scope s.heap.objs.size f cd :: outer
  ex := []
  calm := true
  fn := fun _ => true
  pn := []
  xe := fun e s' => wpAny (model P w) (A.deeper (envOfC qual scope s.heap.objs.size f cd)) (leaving (envOfC qual scope s.heap.objs.size f cd) e) (fun _ s'' => CX outer H s E e s'') (fun e' s'' => CX outer H s E e' s'') s'

theorem cell_has {sc : Scope} {n : Nat} {x : Str} (h : sc.names.lookup x = some .cell) : ∃ c, (cellsFrom n sc.names []).lookup x = some c := by
  have q := PySem.W.cellsFrom_some sc.names n [] (.inl h)
  exact Option.isSome_iff_exists.mp q

theorem inv_start {CX : CXT} {P : Program} {w : World} {K : PySem.W.Frag} {mg : Str → Option Value} {base : Heap} {N ps : List Str} {qual : Str} {scope : Scope} {f : Addr} {cd : Value} {A : Around} {outer : List Env} {s s1 : Shared} {H : Hp} {E : XK} {us : List Value} {vs : List V}
    (S : FnScope N ps scope) (hd : A.handled = none) (e0 : Env0 P w K mg base A outer s H) (hl : vs.length = ps.length) (r : Vals vs us)
    (x : InCallC s s.heap.objs.size (bindL (envOfC qual scope s.heap.objs.size f cd).kindOf (ps.zip us) fun _ => none) (cellsFrom (s.heap.objs.size + 1) scope.names []) (bindC (envOfC qual scope s.heap.objs.size f cd).kindOf (ps.zip us) fun _ => none) s1) :
    Inv (cxOf CX P w K mg base N qual scope f cd A outer s H E) [] (start N vs) H s1 := by
  have hpl : ps.length ≤ N.length := by have := congrArg List.length S.pre; rw [List.length_take] at this; omega
  obtain ⟨h1, tk, rfl, hk⟩ := x.done
  have noA : ∀ b : Addr, b ∉ (cxOf CX P w K mg base N qual scope f cd A outer s H E).ex := fun b z => absurd (show b ∈ ([] : List Addr) from z) (by simp)
  refine ⟨⟨e0.mod, S.kind, rfl, rfl, Nat.le_refl _, fun y z c h1 h2 => ?_, fun y hy => ?_, fun y c _ h => ?_, fun _ => hd, Around.frames_deeper e0.frames, .inr ⟨rfl, rfl⟩, fun b z => absurd z (noA b), e0.bs, e0.bsz, fun b _ _ => noA b, fun b z => absurd z (noA b), e0.funs, e0.frf⟩,
    rfl, e0.bare, Un.kept hk, ⟨_, x.toInCall.ns, fun i y v h1 h2 h3 => ?_⟩, fun y c h => ⟨_, x.cell y c h⟩, e0.hok.fresh (Nat.le_refl _), fun y c h => ?_, fun p hp => absurd (show p ∈ ([] : List (Addr × Obj)) from hp) (by simp), e0.hok.kept hk, ?_⟩
  · exact name_of_addr x.apart (PySem.mem_of_lookup h1) (PySem.mem_of_lookup h2)
  · have hy : scope.names.lookup y = some .cell ∨ scope.names.lookup y = some .free := hy
    rcases hy with hy | hy
    · exact cell_has hy
    · exact absurd rfl (S.nofree _ (PySem.mem_of_lookup hy))
  · exact Nat.le_of_lt (x.above y c (PySem.mem_of_lookup h))
  · have hi : i < vs.length := by
      unfold start at h2
      by_cases hi : i < vs.length
      · exact hi
      · rw [List.getElem?_append_right (by simpa using hi)] at h2
        rw [List.getElem?_replicate] at h2
        split at h2 <;> cases h2
    have ha : vs[i]? = some v := by
      unfold start at h2
      rw [List.getElem?_append_left (by simpa using hi), List.getElem?_map] at h2
      cases e : vs[i]? with
      | none => rw [e] at h2; cases h2
      | some a => rw [e] at h2; cases h2; rfl
    obtain ⟨u, hu, rv⟩ := r.get ha
    have hp : ps[i]? = some y := by
      rw [← S.pre, List.getElem?_take_of_lt (by omega)]; exact h1
    have ndP : ps.Nodup := by rw [← S.pre]; exact S.nd.sublist (List.take_sublist _ _)
    refine ⟨u, rv, ?_⟩
    rcases S.par y (List.mem_of_getElem? hp) with k | k
    · exact .inl ⟨k, bindL_get ndP hp hu k⟩
    · obtain ⟨c, e⟩ := cell_has (n := s.heap.objs.size + 1) k
      refine .inr ⟨.inl k, c, e, ?_⟩
      have q := x.cell y c e
      rw [bindC_get ndP hp hu (by show scope.names.lookup y ≠ _; rw [k]; decide)] at q
      exact q
  · exact e0.hok.fresh (Nat.le_of_lt (x.above y c (PySem.mem_of_lookup h)))
  · unfold start
    show _ = N.length
    rw [List.length_append, List.length_map, List.length_replicate]
    omega

/-- THE RULE: a def (or a method) of the text, by its body. The body's reading t is chosen for each entry; it is run at the parameters' values -/
theorem fn_of {CX : CXT} {P : Program} {w : World} {K : PySem.W.Frag} {mg : Str → Option Value} {base : Heap} {k : Nat} {f : Addr} {name qual : Str} {params : Arguments} {body : List Stmt} {scope : Scope} {dV kV doc pm cdv ct oc : Value} {an od : Option Addr}
    {osl : Array (Option Value)} {N ps : List Str} {sp : Sp} (lk : K.lookup f = some ⟨oc, od, .func (PySem.W.fnOf name qual params body scope dV kV doc pm an cdv ct), osl⟩) (hcd : PySem.W.codeIn K cdv qual = true) (S : FnScope N ps scope)
    (len : ∀ vs H Q E, sp vs H Q E → vs.length = ps.length)
    (hbody : ∀ (A : Around) (outer : List Env) (s : Shared) (H : Hp) (vs : List V) (Q : VK) (E : XK), Room k (A.deeper (envOfC qual scope s.heap.objs.size f cdv)) → sp vs H Q E →
      ∃ t, PSs (cxOf CX P w K mg base N qual scope f cdv A outer s H E) body t ∧ t { nx := fun _ H' => Q .non H', rt := Q } (start N vs) H) :
    FnOk P w K mg base CX (k + 1) f (PySem.W.fnOf name qual params body scope dV kV doc pm an cdv ct) ps sp := by
  refine ⟨len, fun A outer s H args us vs Q E hr e0 hb r hsp => ?_⟩
  have hl := len _ _ _ _ hsp
  have KX : K.In s.heap := e0.mod.kin.keeps fun b o e => (e0.bs b o e).1
  have lim : s.heap.NoLimit := e0.mod.nolimit.keeps fun b o e => (e0.bs b o e).1
  have hkind : ∀ y ∈ ps.zip us, scope.names.lookup y.1 = some .local ∨ (scope.names.lookup y.1 = some .cell ∧ ((cellsFrom (s.heap.objs.size + 1) scope.names []).lookup y.1).isSome = true) := fun ⟨n, v⟩ hy => by
    rcases S.par n (List.of_mem_zip hy).1 with q | q
    · exact .inl q
    · exact .inr ⟨q, PySem.W.cellsFrom_some _ _ _ (.inl q)⟩
  refine codeAny_call_function hr.depth (KX _ _ lk) rfl S.co S.gen rfl (PySem.W.codeRec_of KX hcd) (hb _ _ _ _ ?_)
  refine wpAny_newFunctionEnv_cells S.kind hkind fun env he s1 x => ?_
  subst he
  refine ⟨lim.keeps x.toInCall.keep, codeAny_func ?_⟩
  obtain ⟨t, ht, hq⟩ := hbody A outer s H vs Q E (hr.deeper _) hsp
  have I : Inv (cxOf CX P w K mg base N qual scope f cdv A outer s H E) [] (start N vs) H s1 := inv_start S hr.hd e0 hl r x
  refine wpAny_mono (ht [] s1 (start N vs) H _ I hq) (fun fl s' hs => ?_) fun e s' hs => hs
  have fin : ∀ {σ' : St} {H' : Hp} {v : V} {u : Value}, Inv (cxOf CX P w K mg base N qual scope f cdv A outer s H E) [] σ' H' s' → RelV v u → Q v H' → CE outer P w H s Q u s' :=
    fun {σ' H' v u} J rv q => ⟨v, H', J.os, J.bare, J.base, J.hok, rv, q⟩
  cases fl with
  | ret u =>
    obtain ⟨v, σ', H', J, rv, q⟩ := hs
    exact fin J rv q
  | next =>
    obtain ⟨σ', H', J, q⟩ := hs
    exact fin (v := V.non) (u := Value.none) J rfl q
  | brk =>
    obtain ⟨_, _, _, q⟩ := hs
    exact False.elim q
  | cont =>
    obtain ⟨_, _, _, q⟩ := hs
    exact False.elim q
end L2

namespace L2
open PySem PySem.Spec PyProof.Rows
section
variable {X : Cx} {x : Str} {p pos : Pos} {e : Expr} {es : List Expr} {t : TA} {id T : String} {r : List V → Hp → VK → Prop}

def tCB (r : List V → Hp → VK → Prop) (t : TA) : TE := fun σ H Q => t σ H fun vs H1 => r vs H1 Q
/-- f(e, ..), f a built-in function -/
theorem pe_callB (hc : CallR X (.builtin id) r) (hg : Gl X x) (hm : X.mg x = none) (hv : bootBuiltins x = some (.builtin id)) (ha : PA X (e :: es) t) (hn : x ≠ "__name__" := by decide) (hdb : (x == ("__debug__" : Str)) = false := by decide)
    (he : starEach (e :: es) X.env = (false, eval e X.env) :: starEach es X.env := by rfl) (hpl : (backTo pos (starEach es X.env)).any (·.1) = false := by rfl) : PE X (.Call (.Name x p) (e :: es) [] pos) (tCB r t) := by
  intro pins s σ H Q I h
  refine wpAny_Call_Name_kw (ld_blt I hg hm hv ?_ hn hdb)
  exact PyProof.Rows.callWith_builtin1 (thn (ha pos pins s σ H _ I h) fun us s1 ⟨vs, H1, I1, r1, q1⟩ => hc pins s1 σ H1 vs us Q I1 r1 q1) he hpl
/-- T(e, ..), T a built-in type -/
theorem pe_callTy (hc : CallR X (.type T) r) (hg : Gl X x) (hm : X.mg x = none) (hv : bootBuiltins x = some (.type T)) (ha : PA X (e :: es) t) (hn : x ≠ "__name__" := by decide) (hdb : (x == ("__debug__" : Str)) = false := by decide)
    (he : starEach (e :: es) X.env = (false, eval e X.env) :: starEach es X.env := by rfl) (hpl : (backTo pos (starEach es X.env)).any (·.1) = false := by rfl) : PE X (.Call (.Name x p) (e :: es) [] pos) (tCB r t) := by
  intro pins s σ H Q I h
  refine wpAny_Call_Name_kw (ld_blt I hg hm hv ?_ hn hdb)
  exact PyProof.Rows.callWith_type1 (thn (ha pos pins s σ H _ I h) fun us s1 ⟨vs, H1, I1, r1, q1⟩ => hc pins s1 σ H1 vs us Q I1 r1 q1) he hpl
end
end L2

namespace HT
open PySem PyProof.Rows

/-- t < u of tuples of ints -/
def lexLt : List Int → List Int → Bool
  | [], [] => false
  | [], _ :: _ => true
  | _ :: _, [] => false
  | x :: xs, y :: ys => if x = y then lexLt xs ys else decide (x < y)
theorem lexLt_cons (x y : Int) (xs ys : List Int) : lexLt (x :: xs) (y :: ys) = if x = y then lexLt xs ys else decide (x < y) := rfl
theorem lexLt_nil_nil : lexLt [] [] = false := rfl
theorem lexLt_nil_cons (y : Int) (ys : List Int) : lexLt [] (y :: ys) = true := rfl
theorem lexLt_cons_nil (x : Int) (xs : List Int) : lexLt (x :: xs) [] = false := rfl

theorem eqAt_int (A : Around) (s : Shared) (a : Int) (t : Tok) (c : Int) (u : Tok) : ∃ e, SeqAt.EqAt A s (.int a t) (.int c u) e ∧ (e = true ↔ a = c) :=
  ⟨(a == c), SeqAt.EqAt.int_int a t c u, by simp⟩
theorem rcLt_int (A : Around) (s : Shared) (a : Int) (t : Tok) (c : Int) (u : Tok) (prog : Program) (w : World) (E : Value → Shared → Prop) (Q : Value → Shared → Prop) (h : Q (.bool (decide (a < c))) s) :
    wpAny (model prog w) A (richCompare .Lt (.int a t) (.int c u)) Q E s :=
  (PyProof.Rows.lt_int h : wpAny (model prog w) A (compareOp .Lt (.int a t) (.int c u)) Q E s)

section
open PySem.SeqAt
open PySem.AutoSeq1 (wpAny_loadPart')
open PySem.MeetsSeq PySem.MeetsSeq2 PySem.MeetsSeq3

theorem tuple_lt_ints (l b : Addr) (items items2 : Array Value) (n n2 : Nat) (dd dd2 : Option Addr) (sl sl2 : Array (Option Value)) (ns ms : List Int) (hi : IntsAre items.toList ns) (hj : IntsAre items2.toList ms) :
    Meets (Builtin.«tuple.__lt__» ⟨[.ref l, .ref b], []⟩)
      (fun _ R s => s.heap.get? l = some { cls := .type "tuple", dict := dd, data := .seq items n, slots := sl } ∧ s.heap.get? b = some { cls := .type "tuple", dict := dd2, data := .seq items2 n2, slots := sl2 } ∧
        R (.ok (.ret (.bool (lexLt ns ms)))) s) :=
  .of_wp fun prog w A R s h => by
    obtain ⟨hp, g, d, tk, os⟩ := s; obtain ⟨hl, hb, h⟩ := h
    have f2 := AutoSeq1.sub_tuple_tuple
    have z1 : items.size = ns.length := by rw [← hi.length]; simp
    have z2 : items2.size = ms.length := by rw [← hj.length]; simp
    wp_walk using wpAny_loadPart' hl, wpAny_loadPart' hb, wpAny_forIn_list _ (fun rest b s' => b.1 = none ∧ s' = ⟨hp, g, d, tk, os⟩ ∧ ∃ (vs ws : List Value) (ns' ms' : List Int), rest = vs.zip ws ∧
      IntsAre vs ns' ∧ IntsAre ws ms' ∧ ns'.length + items2.size = ms'.length + items.size ∧ R (.ok (.ret (.bool (lexLt ns' ms')))) ⟨hp, g, d, tk, os⟩) _
    case turn =>
      rintro ⟨y, x⟩ rest b s' ⟨hb', rfl, vs, ws, ns', ms', hz, hvi, hwi, hlen, hR⟩
      cases hvi with
      | nil => rw [List.zip_nil_left] at hz; cases hz
      | cons a t hvi' =>
        cases hwi with
        | nil => rw [List.zip_nil_right] at hz; cases hz
        | cons c u hwi' =>
          rw [List.zip_cons_cons] at hz
          injection hz with hyx hrest
          injection hyx with hy hx
          subst hy hx
          rw [lexLt_cons] at hR
          simp only [List.length_cons] at hlen
          obtain ⟨e, he, hiff⟩ := eqAt_int A.in1 ⟨hp, g, d, tk, os⟩ a t c u
          refine wpAny_bind (he prog w _ _ ?_)
          cases e with
          | true =>
            rw [if_pos (hiff.mp rfl)] at hR
            wp_walk
            exact ⟨rfl, rfl, _, _, _, _, hrest, hvi', hwi', by omega, hR⟩
          | false =>
            rw [if_neg (fun q => absurd (hiff.mpr q) Bool.false_ne_true)] at hR
            have hri := rcLt_int A.in1 ⟨hp, g, d, tk, os⟩ a t c u prog w
            wp_walk using hri
            exact ⟨_, rfl, by simpa using hR⟩
    case fin =>
      rintro ⟨b1, b2⟩ s' ⟨hb', rfl, vs, ws, ns', ms', hz, hvi, hwi, hlen, hR⟩
      simp only at hb'
      subst hb'
      have hv : lexLt ns' ms' = decide (items.size < items2.size) := by
        cases hvi with
        | nil =>
          cases hwi with
          | nil =>
            simp only [List.length_nil] at hlen
            rw [lexLt_nil_nil]
            exact (decide_eq_false (by omega)).symm
          | cons c u hw =>
            simp only [List.length_nil, List.length_cons] at hlen
            rw [lexLt_nil_cons]
            exact (decide_eq_true (by omega)).symm
        | cons a t hv =>
          cases hwi with
          | nil =>
            simp only [List.length_nil, List.length_cons] at hlen
            rw [lexLt_cons_nil]
            exact (decide_eq_false (by omega)).symm
          | cons c u hw =>
            rw [List.zip_cons_cons] at hz
            cases hz
      rw [hv] at hR
      wp_walk
      exact ⟨_, rfl, by simpa [Builtin.Tuple.tupleCompareSizes] using hR⟩
    case h =>
      exact ⟨rfl, rfl, items.toList, items2.toList, ns, ms, rfl, hi, hj, by omega, h⟩
end

section
variable {prog : Program} {w : World} {A : Around} {E : Value → Shared → Prop} {s : Shared}

theorem lt_tupInts {l b : Addr} {items items2 : Array Value} {ns ms : List Int} {Q : Value → Shared → Prop} (hl : IsTup s.heap l items) (hb : IsTup s.heap b items2) (hi : IntsAre items.toList ns) (hj : IntsAre items2.toList ms)
    (hu : A.units < cLine) (h : Q (.bool (lexLt ns ms)) s) : wpAny (model prog w) A (compareOp .Lt (.ref l) (.ref b)) Q E s := by
  obtain ⟨⟨cls, dd, data, sl⟩, ho, hc, n, hd⟩ := id hl
  obtain ⟨⟨cls2, dd2, data2, sl2⟩, ho2, hc2, n2, hd2⟩ := id hb
  simp only at hc hd hc2 hd2
  subst hc hd hc2 hd2
  exact richCompare_meets_room (op := .Lt) ⟨_, ho, rfl⟩ ⟨_, ho2, rfl⟩ PySem.F.slot_tuple_lt PySem.F.entry_tuple_lt (PySem.F.args_tuple_lt_2 _ _) (tuple_lt_ints l b items items2 n n2 dd dd2 sl sl2 ns ms hi hj)
    ⟨ho, ho2, show Value.bool (lexLt ns ms) ≠ Value.notImplemented ∧ Q (.bool (lexLt ns ms)) s from ⟨(fun x => nomatch x), h⟩⟩ hu

/-- t + u, t not empty -/
theorem cat_tup {t b : Addr} {vs ws : List Value} {Q : Value → Shared → Prop} (ht : IsTup s.heap t vs.toArray) (hb : IsTup s.heap b ws.toArray) (hv : vs ≠ [])
    (h1 : ws = [] → Q (.ref t) s) (h2 : ws ≠ [] → Q (.ref s.heap.objs.size) { s with heap := s.heap.push { cls := .type "tuple", data := .seq (vs ++ ws).toArray } })
    (hsz : vs.length + ws.length ≤ sizeLine) : wpAny (model prog w) A (binaryOp .Add (.ref t) (.ref b)) Q E s := by
  obtain ⟨⟨cls, dd, data, sl⟩, ho, hc, n, hd⟩ := id ht
  obtain ⟨⟨cls2, dd2, data2, sl2⟩, ho2, hc2, n2, hd2⟩ := id hb
  simp only at hc hd hc2 hd2
  subst hc hd hc2 hd2
  have e : vs.toArray ++ ws.toArray = (vs ++ ws).toArray := by simp
  by_cases hw : ws = []
  · exact concat_meets ⟨_, ho, rfl⟩ ⟨_, ho2, rfl⟩ noFill_tuple_add seq_tuple_add PySem.F.slot_tuple_add PySem.F.entry_tuple_add (PySem.F.args_tuple_add_2 _ _)
      (tuple_addW1 t b vs.toArray ws.toArray n n2 dd dd2 sl sl2 (by simpa using hv) (by simp [hw])) ⟨ho, ho2, h1 hw⟩
  · refine concat_meets ⟨_, ho, rfl⟩ ⟨_, ho2, rfl⟩ noFill_tuple_add seq_tuple_add PySem.F.slot_tuple_add PySem.F.entry_tuple_add (PySem.F.args_tuple_add_2 _ _)
      (tuple_addW2 t b vs.toArray ws.toArray n n2 dd dd2 sl sl2 (by simpa using hv) (by simpa using hw) (by rw [List.size_toArray, List.size_toArray]; exact hsz)) ⟨ho, ho2, ?_⟩
    rw [e]
    exact h2 hw

/-! ### t[a:b], not the whole -/
/-- a slice's bound as a place among n (d where it is left out) -/
def sIx (n d : Nat) : Option Int → Nat
  | none => d
  | some v => if v < 0 then (v + (n : Int)).toNat else min v.toNat n
theorem sIx_nat (n d k : Nat) : sIx n d (some (k : Int)) = min k n := by
  show (if (k : Int) < 0 then ((k : Int) + (n : Int)).toNat else min (k : Int).toNat n) = min k n
  rw [if_neg (by omega), Int.toNat_natCast]
theorem sIx_le (n d : Nat) (hd : d ≤ n) (o : Option Int) : sIx n d o ≤ n := by
  cases o with
  | none => exact hd
  | some v =>
    show (if v < 0 then (v + (n : Int)).toNat else min v.toNat n) ≤ n
    by_cases hv : v < 0
    · rw [if_pos hv]; omega
    · rw [if_neg hv]; exact Nat.min_le_right _ _
theorem clip_eq (v : Int) (n d : Nat) : (if v < 0 then max (v + (n : Int)) 0 else min v (n : Int)) = ((sIx n d (some v) : Nat) : Int) := by
  show (if v < 0 then max (v + (n : Int)) 0 else min v (n : Int)) = (((if v < 0 then (v + (n : Int)).toNat else min v.toNat n) : Nat) : Int)
  by_cases hv : v < 0
  · simp only [if_pos hv]; omega
  · simp only [if_neg hv]; omega
theorem adjust_gen (lo hi : Option Int) (n : Nat) : Builtin.Slice.sliceAdjust lo hi 1 (n : Int) = (((sIx n 0 lo : Nat) : Int), ((sIx n n hi : Nat) : Int)) := by
  have h1 : ¬ ((1 : Int) < 0) := by omega
  unfold Builtin.Slice.sliceAdjust
  simp only [h1, if_false]
  refine Prod.ext ?_ ?_
  · cases lo with
    | none => rfl
    | some v => exact clip_eq v n 0
  · cases hi with
    | none => rfl
    | some v => exact clip_eq v n n
theorem places_gen (i j : Nat) : Builtin.Slice.slicePlaces (i : Int) (j : Int) 1 = j - i := by
  unfold Builtin.Slice.slicePlaces
  have h1 : (1 : Int) > 0 := by omega
  simp only [h1, if_true, Int.ediv_one]
  split <;> omega
theorem slicePart_ {v : Value} {o : Option Int} {Q : Option Int → Shared → Prop} (p : IsPart v o) (h : Q o s) : wpAny (model prog w) A (Builtin.Slice.slicePartIndex v) Q E s := by
  cases p with
  | none => exact slicePart_none h
  | int i t => exact slicePart_int h
theorem sliceApplied_gen {sl : Addr} {vl vu : Value} {lo hi : Option Int} {n : Nat} {Q : Int × Int × Nat → Shared → Prop} (hs : s.heap.IsSliceOf sl vl vu .none) (pl : IsPart vl lo) (pu : IsPart vu hi)
    (h : Q (((sIx n 0 lo : Nat) : Int), 1, sIx n n hi - sIx n 0 lo) s) : wpAny (model prog w) A (Builtin.Slice.sliceApplied (.ref sl) (pure (n : Int))) Q E s := by
  obtain ⟨os, hos, hcs, hds⟩ := id hs
  unfold Builtin.Slice.sliceApplied Builtin.Slice.sliceFields
  refine wpAny_bind (wpAny_bind (wpAny_field hos hds (x := vl) rfl (wpAny_bind (wpAny_field hos hds (x := vu) rfl (wpAny_bind (wpAny_field hos hds (x := .none) rfl (wpAny_pure ?_)))))))
  refine wpAny_bind (slicePart_none ?_)
  show wpAny _ _ (if ((1 : Int) == 0) = true then _ else _) _ _ s
  rw [if_neg (by decide)]
  refine wpAny_bind (slicePart_ pl (wpAny_bind (slicePart_ pu (wpAny_bind (wpAny_pure ?_)))))
  show wpAny _ _ (match Builtin.Slice.sliceAdjust lo hi 1 (n : Int) with | (lo, hi) => pure (lo, (1 : Int), Builtin.Slice.slicePlaces lo hi 1)) _ _ s
  rw [adjust_gen lo hi n]
  show wpAny _ _ (pure (((sIx n 0 lo : Nat) : Int), (1 : Int), Builtin.Slice.slicePlaces ((sIx n 0 lo : Nat) : Int) ((sIx n n hi : Nat) : Int) 1)) _ _ s
  rw [places_gen]
  exact wpAny_pure h
theorem pick_gen (xs : Array Value) (i k : Nat) : ((List.range k).filterMap fun (m : Nat) => xs[((i : Int) + (m : Int) * 1).toNat]?).toArray = ((xs.toList.drop i).take k).toArray := by
  have e : (fun (m : Nat) => xs[((i : Int) + (m : Int) * 1).toNat]?) = fun m => xs[i + m]? := by
    funext m
    have : ((i : Int) + (m : Int) * 1).toNat = i + m := by omega
    rw [this]
  rw [e]
  have := pick_run xs i k
  rw [List.filterMap_map] at this
  have e2 : ((fun x => xs[x]?) ∘ fun x => i + x) = fun m => xs[i + m]? := rfl
  rw [e2] at this
  rw [this]

theorem getItem_tuple_cut {t sl : Addr} {items : Array Value} {vl vu : Value} {lo hi : Option Int} {Q : Value → Shared → Prop} (ht : IsTup s.heap t items) (hs : s.heap.IsSliceOf sl vl vu .none) (pl : IsPart vl lo) (pu : IsPart vu hi)
    (hw : ¬ (sIx items.size 0 lo = 0 ∧ sIx items.size items.size hi = items.size))
    (h : Q (.ref s.heap.objs.size) { s with heap := s.heap.push { cls := .type "tuple", data := .seq ((items.toList.drop (sIx items.size 0 lo)).take (sIx items.size items.size hi - sIx items.size 0 lo)).toArray } })
    (hsz : items.size ≤ sizeLine) : wpAny (model prog w) A (getItem (.ref t) (.ref sl)) Q E s := by
  have htake : sizeOk (.seq ((items.toList.drop (sIx items.size 0 lo)).take (sIx items.size items.size hi - sIx items.size 0 lo)).toArray) := by
    show ((items.toList.drop (sIx items.size 0 lo)).take (sIx items.size items.size hi - sIx items.size 0 lo)).toArray.size ≤ sizeLine
    rw [List.size_toArray, List.length_take, List.length_drop, Array.length_toList]
    omega
  have hj : sIx items.size items.size hi ≤ items.size := sIx_le _ _ (Nat.le_refl _) hi
  obtain ⟨os, hos, hcs, hds⟩ := id hs
  have hTs : s.TypeIs (.ref sl) "slice" := ⟨os, hos, hcs⟩
  unfold getItem
  try with_reducible refine wpAny_holding ?_
  first | refine wpAny_bind (wpAny_pure ?_) | skip
  refine wpAny_bind (wpAny_sequenceKey ht.typeIs (by decide) ?_)
  refine wpAny_bind (wpAny_callSpecial?_slot (name := Str.ofString "__getitem__") ht.typeIs PyProof.Rows.slot_tuple_getitem
    (wpAny_call_entry PyProof.Rows.slot_tuple_getitem ht.typeIs entry_tuple_getitem ?_ (args_tuple_getitem _ _)))
  show wpAny _ _ (Builtin.Tuple.tupleItemsOf (.ref t) >>= _) _ _ s
  refine wpAny_bind (tupleItemsOf_ ht ?_)
  refine wpAny_bind (wpAny_typeOf hTs ?_)
  rw [if_pos (by decide)]
  refine wpAny_bind (sliceApplied_gen hs pl pu ?_)
  have hno : ¬ ((((sIx items.size 0 lo : Nat) : Int) == 0 && (1 : Int) == 1 && (sIx items.size items.size hi - sIx items.size 0 lo) == items.size) = true) := by
    intro q
    rw [Bool.and_eq_true, Bool.and_eq_true] at q
    have q1 : ((sIx items.size 0 lo : Nat) : Int) = 0 := eq_of_beq q.1.1
    have q2 : sIx items.size items.size hi - sIx items.size 0 lo = items.size := eq_of_beq q.2
    exact hw ⟨by omega, by omega⟩
  show wpAny _ _ (if (((sIx items.size 0 lo : Nat) : Int) == 0 && (1 : Int) == 1 && (sIx items.size items.size hi - sIx items.size 0 lo) == items.size) = true then _ else _) _ _ s
  rw [if_neg hno, pick_gen]
  first
    | exact wpAny_bind (m := Builtin.Tuple.tupleExact _) (wpAny_newObj_type (wpAny_pure ⟨_, rfl, wpAny_pure h⟩) htake)
    | exact wpAny_bind (m := Builtin.Tuple.tupleExact _) (wpAny_newObj_type (wpAny_bind (wpAny_pure (wpAny_pure ⟨_, rfl, wpAny_pure h⟩))) htake)
    | exact wpAny_bind (wpAny_bind (m := Builtin.Tuple.tupleExact _) (wpAny_newObj_type (wpAny_pure (wpAny_pure ⟨_, rfl, wpAny_pure h⟩)) htake))
    | exact wpAny_bind (wpAny_bind (m := Builtin.Tuple.tupleExact _) (wpAny_newObj_type (wpAny_pure ⟨_, rfl, wpAny_pure h⟩) htake))
end
end HT

namespace L2
open PySem PySem.Spec PyProof.Rows

/-! ### the parts of a slice -/
abbrev TO := St → Hp → (Option Int → Hp → Prop) → Prop
/-- a slice's part (left out, or an int) -/
def PO (X : Cx) (e : Option Expr) (t : TO) : Prop :=
  ∀ (pins : List (Addr × Obj)) (s : Shared) (σ : St) (H : Hp) (Q : Option Int → Hp → Prop), Inv X pins σ H s → t σ H Q →
    wpAny (model X.prog X.w) X.A (evalPart e X.env) (fun u s' => ∃ o H', Inv X pins σ H' s' ∧ IsPart u o ∧ Q o H') X.xe s
def tNoPart : TO := fun _ H Q => Q none H
def tPart (t : TE) : TO := fun σ H Q => t σ H fun x H1 => ∃ i, x = .int i ∧ Q (some i) H1

theorem intsAre_of {ns : List Int} : ∀ {us : List Value}, Vals (ns.map V.int) us → IntsAre us ns := by
  induction ns with
  | nil => intro us r; rw [List.map_nil] at r; cases r; exact .nil
  | cons n ns ih =>
    intro us r
    rw [List.map_cons] at r
    cases r with
    | cons r1 r2 =>
      obtain ⟨t, e⟩ := r1
      subst e
      exact .cons n t (ih r2)

section
variable {X : Cx} {e : Expr} {te : TE} {lo hi : Option Expr} {tl th : TO} {pos p2 : Pos}

theorem po_none : PO X none tNoPart := by
  intro pins s σ H Q I h
  rw [evalPart_none]
  exact wpAny_pure ⟨none, H, I, .none, h⟩
theorem po_some (h : PE X e te) : PO X (some e) (tPart te) := by
  intro pins s σ H Q I hw
  rw [evalPart_some]
  refine thn (h pins s σ H _ I hw) fun u s1 ⟨x, H1, I1, r1, q1⟩ => ?_
  obtain ⟨i, rfl, q⟩ := q1
  obtain ⟨t, rfl⟩ := r1
  exact ⟨some i, H1, I1, .int i t, q⟩

/-- what a slice of a value is, by values: the slice object stands at sl -/
def SlR (X : Cx) (r : V → Option Int → Option Int → Hp → VK → Prop) : Prop :=
  ∀ (pins : List (Addr × Obj)) (s : Shared) (σ : St) (H : Hp) (x : V) (v vl vu : Value) (lo hi : Option Int) (sl : Addr) (Q : VK), Inv X pins σ H s → RelV x v → s.heap.IsSliceOf sl vl vu .none → IsPart vl lo → IsPart vu hi → r x lo hi H Q →
    ∃ T id, typeLookup (.type T) "__getitem__" = pure (some (.builtin id)) ∧ s.TypeIs v T ∧ wpAny (model X.prog X.w) X.A (getItem v (.ref sl)) (EP X pins σ Q) X.xe s
theorem SlR.or {r r' : V → Option Int → Option Int → Hp → VK → Prop} (h : SlR X r) (h' : SlR X r') : SlR X (fun x lo hi H Q => r x lo hi H Q ∨ r' x lo hi H Q) := by
  intro pins s σ H x v vl vu lo hi sl Q I rx hs pl pu q
  rcases q with q | q
  · exact h pins s σ H x v vl vu lo hi sl Q I rx hs pl pu q
  · exact h' pins s σ H x v vl vu lo hi sl Q I rx hs pl pu q
def tSl (r : V → Option Int → Option Int → Hp → VK → Prop) (te : TE) (tl th : TO) : TE := fun σ H Q => te σ H fun x H1 => tl σ H1 fun l H2 => th σ H2 fun u H3 => r x l u H3 Q
/-- a[lo:hi], any a -/
theorem pe_slice {r : V → Option Int → Option Int → Hp → VK → Prop} (hr : SlR X r) (he : PE X e te) (hl : PO X lo tl) (hu : PO X hi th) : PE X (.Subscript e (.Slice lo hi none p2) pos) (tSl r te tl th) := by
  intro pins s σ H Q I h
  refine Subscript_ (thn (he pins s σ H _ I h) fun v s1 ⟨x, H1, I1, r1, q1⟩ => ?_)
  refine wpAny_Slice (thn (hl pins s1 σ H1 _ I1 q1) fun vl s2 ⟨l, H2, I2, pl, q2⟩ => thn (hu pins s2 σ H2 _ I2 q2) fun vu s3 ⟨u, H3, I3, pu, q3⟩ => ?_)
  rw [evalPart_none]
  refine wpAny_pure ?_
  have I4 : Inv X pins σ H3 { s3 with heap := s3.heap.push { cls := .type "slice", data := .fields #[vl, vu, .none] } } := I3.kept (t' := s3.toks) fun b ob q => Heap.get?_push_of_some _ q
  obtain ⟨T, id, hT, ht, hg⟩ := hr pins { s3 with heap := s3.heap.push { cls := .type "slice", data := .fields #[vl, vu, .none] } } σ H3 x v vl vu l u s3.heap.objs.size Q I4 r1 (Heap.IsSliceOf.new ..) pl pu q3
  show wpAny (model X.prog X.w) X.A (subscriptTail e (.Slice lo hi none p2) v (.ref s3.heap.objs.size)) (EP X pins σ Q) X.xe { s3 with heap := s3.heap.push { cls := .type "slice", data := .fields #[vl, vu, .none] } }
  exact tail_any (ops := [.ref s3.heap.objs.size, v]) ht hT hg (by with_unfolding_all rfl)

/-- the items of xs[lo:hi] -/
def cutV (xs : List V) (lo hi : Option Int) : List V := (xs.drop (HT.sIx xs.length 0 lo)).take (HT.sIx xs.length xs.length hi - HT.sIx xs.length 0 lo)
theorem cutV_length (xs : List V) (lo hi : Option Int) : (cutV xs lo hi).length ≤ xs.length := by
  unfold cutV
  rw [List.length_take, List.length_drop]
  omega
/-- t[lo:hi], not the whole of it (the whole would be t itself) -/
def rSlT (K : PySem.W.Frag) : V → Option Int → Option Int → Hp → VK → Prop := fun x lo hi H Q => ∃ a xs, x = .ref a ∧ SqT K H a xs ∧
  ¬ (HT.sIx xs.length 0 lo = 0 ∧ HT.sIx xs.length xs.length hi = xs.length) ∧ ∀ p, H p = none → Q (.ref p) (upd H p (.tup (cutV xs lo hi)))
theorem sl_tup : SlR X (rSlT X.K) := by
  intro pins s σ H x v vl vu lo hi sl Q I rx hs pl pu h
  obtain ⟨a, xs, rfl, hx, hw, q⟩ := h
  cases rx
  obtain ⟨its, r, ht, hz⟩ := I.tuple hx
  have hlen : its.toArray.size = xs.length := by rw [List.size_toArray]; exact r.length.symm
  refine ⟨"tuple", _, PyProof.Rows.slot_tuple_getitem.lookup, ht.typeIs, ?_⟩
  refine HT.getItem_tuple_cut ht hs pl pu (by rw [hlen]; exact hw) ?_ (by rw [hlen]; exact hz)
  rw [hlen]
  refine ⟨.ref s.heap.objs.size, _, I.laid (t' := s.toks) (o := .tup (cutV xs lo hi)) (fun b ob q => Heap.get?_push_of_some _ q) (Nat.le_refl _) ?_, rfl, q _ (I.hok.fresh (Nat.le_refl _))⟩
  exact ⟨Nat.le_trans (cutV_length xs lo hi) hz, _, (r.drop (HT.sIx xs.length 0 lo)).take (HT.sIx xs.length xs.length hi - HT.sIx xs.length 0 lo), IsTup.new _ _, ND.new _ _ rfl⟩

/-! ### t < u, t + u -/
def rLtT (K : PySem.W.Frag) : R2 := fun x y H Q => ∃ a b ns ms, x = .ref a ∧ y = .ref b ∧ SqT K H a (ns.map V.int) ∧ SqT K H b (ms.map V.int) ∧ Q (.bl (HT.lexLt ns ms)) H
theorem op_ltT (hu : X.A.units < cLine) : OpR X (compareOp .Lt) (rLtT X.K) := by
  intro pins s σ H x y v u Q I rx ry h
  obtain ⟨a, b, ns, ms, rfl, rfl, ha, hb, q⟩ := h
  cases rx
  cases ry
  obtain ⟨its, r1, p1, _⟩ := I.tuple ha
  obtain ⟨its2, r2, p2, _⟩ := I.tuple hb
  have i1 : IntsAre its.toArray.toList ns := intsAre_of r1
  have i2 : IntsAre its2.toArray.toList ms := intsAre_of r2
  exact HT.lt_tupInts p1 p2 i1 i2 hu ⟨.bl (HT.lexLt ns ms), H, I, rfl, q⟩
/-- t + u, t not empty: u empty gives t itself -/
def rCatT (K : PySem.W.Frag) : R2 := fun x y H Q => ∃ a b xs ys, x = .ref a ∧ y = .ref b ∧ SqT K H a xs ∧ SqT K H b ys ∧ xs ≠ [] ∧ xs.length + ys.length ≤ sizeLine ∧
  (ys = [] → Q (.ref a) H) ∧ (ys ≠ [] → ∀ p, H p = none → Q (.ref p) (upd H p (.tup (xs ++ ys))))
theorem Vals.nil_iff {xs : List V} {us : List Value} (r : Vals xs us) : us = [] ↔ xs = [] := by
  cases r with
  | nil => simp
  | cons _ _ => simp
theorem op_catT : OpR X (binaryOp .Add) (rCatT X.K) := by
  intro pins s σ H x y v u Q I rx ry h
  obtain ⟨a, b, xs, ys, rfl, rfl, ha, hb, hx, hz, q1, q2⟩ := h
  cases rx
  cases ry
  obtain ⟨its, r1, p1, _⟩ := I.tuple ha
  obtain ⟨its2, r2, p2, _⟩ := I.tuple hb
  refine HT.cat_tup p1 p2 (fun z => hx (r1.nil_iff.mp z)) (fun z => ⟨.ref a, H, I, rfl, q1 (r2.nil_iff.mp z)⟩) (fun z => ?_) (by rw [← r1.length, ← r2.length]; exact hz)
  refine ⟨.ref s.heap.objs.size, _, I.laid (t' := s.toks) (o := .tup (xs ++ ys)) (fun b ob q => Heap.get?_push_of_some _ q) (Nat.le_refl _) ?_, rfl, q2 (fun w => z (r2.nil_iff.mpr w)) _ (I.hok.fresh (Nat.le_refl _))⟩
  exact ⟨by rw [List.length_append]; exact hz, _, r1.append r2, IsTup.new _ _, ND.new _ _ rfl⟩
end
end L2

namespace L2
open PySem PySem.Spec PyProof.Rows

/-! ### places -/
/-- the place that an index of any sign means -/
def ixN (n : Nat) (i : Int) : Option Nat := if 0 ≤ i then (if i < n then some i.toNat else none) else if -(n : Int) ≤ i then some (i + n).toNat else none
def atI {α : Type} (xs : List α) (i : Int) : Option α := (ixN xs.length i).bind fun j => xs[j]?
theorem ixN_seq {n : Nat} {i : Int} {j : Nat} (h : ixN n i = some j) : seqIndex? i n = some j ∧ j < n ∧ -(n : Int) ≤ i ∧ i < n := by
  unfold ixN at h
  by_cases h0 : 0 ≤ i
  · rw [if_pos h0] at h
    by_cases h1 : i < n
    · rw [if_pos h1] at h
      have e : i.toNat = j := Option.some.inj h
      exact ⟨by rw [seqIndex_of h0 h1, e], by omega, by omega, h1⟩
    · rw [if_neg h1] at h; cases h
  · rw [if_neg h0] at h
    by_cases h1 : -(n : Int) ≤ i
    · rw [if_pos h1] at h
      have e : (i + n).toNat = j := Option.some.inj h
      exact ⟨by rw [seqIndex_neg (by omega) h1, e], by omega, h1, by omega⟩
    · rw [if_neg h1] at h; cases h
theorem atI_get {α : Type} {xs : List α} {i : Int} {v : α} (h : atI xs i = some v) : ∃ j, seqIndex? i xs.length = some j ∧ xs[j]? = some v ∧ j < xs.length ∧ -(xs.length : Int) ≤ i ∧ i < xs.length := by
  unfold atI at h
  cases e : ixN xs.length i with
  | none => rw [e] at h; cases h
  | some j =>
    rw [e] at h
    obtain ⟨h1, h2, h3, h4⟩ := ixN_seq e
    exact ⟨j, h1, h, h2, h3, h4⟩
theorem atI_nat {α : Type} {xs : List α} {j : Nat} {v : α} (h : xs[j]? = some v) : atI xs (j : Int) = some v := by
  have hj : j < xs.length := (List.getElem?_eq_some_iff.mp h).1
  have e : ixN xs.length (j : Int) = some j := by
    unfold ixN
    rw [if_pos (by omega), if_pos (by omega)]; simp
  unfold atI; rw [e]; exact h
/-! ### what may be subscripted -/
/-- what stands as an index of a plain subscript -/
def PlainIx (b : Expr) : Prop := ∀ o i, subscripted b false o i = operate [o, i] (getItem o i)
/-- a subscript by values -/
def IxR (X : Cx) (r : R2) : Prop :=
  ∀ (value slice : Expr) (pins : List (Addr × Obj)) (s : Shared) (σ : St) (H : Hp) (x y : V) (v u : Value) (Q : VK), Inv X pins σ H s → RelV x v → RelV y u → r x y H Q →
    subscripted slice false v u = operate [v, u] (getItem v u) → wpAny (model X.prog X.w) X.A (subscriptTail value slice v u) (EP X pins σ Q) X.xe s
/-- a call of a builtin's method by values: the receiver, the arguments -/
def MtR (X : Cx) (id : String) (r : V → List V → Hp → VK → Prop) : Prop :=
  ∀ (pins : List (Addr × Obj)) (s : Shared) (σ : St) (H : Hp) (x : V) (xs : List V) (v : Value) (us : List Value) (Q : VK), Inv X pins σ H s → RelV x v → Vals xs us → r x xs H Q →
    wpAny (model X.prog X.w) X.A (call (.builtin id) (v :: us)) (EP X pins σ Q) X.xe s
section
variable {X : Cx} {a b : Expr} {ta tb : TE} {pos : Pos}
theorem IxR.or {r r' : R2} (h : IxR X r) (h' : IxR X r') : IxR X (fun x y H Q => r x y H Q ∨ r' x y H Q) := by
  intro value slice pins s σ H x y v u Q I rx ry q hs
  rcases q with q | q
  · exact h value slice pins s σ H x y v u Q I rx ry q hs
  · exact h' value slice pins s σ H x y v u Q I rx ry q hs
theorem MtR.or {id : String} {r r' : V → List V → Hp → VK → Prop} (h : MtR X id r) (h' : MtR X id r') : MtR X id (fun x xs H Q => r x xs H Q ∨ r' x xs H Q) := by
  intro pins s σ H x xs v us Q I rx rs q
  rcases q with q | q
  · exact h pins s σ H x xs v us Q I rx rs q
  · exact h' pins s σ H x xs v us Q I rx rs q
/-- a[b] -/
theorem pe_ix {r : R2} (hr : IxR X r) (ha : PE X a ta) (hb : PE X b tb) (hs : PlainIx b) : PE X (.Subscript a b pos) (tOp r ta tb) := by
  intro pins s σ H Q I h
  exact Subscript_ (binT ha hb I h fun v u s2 x y H2 I2 rx ry q => hr a b pins s2 σ H2 x y v u Q I2 rx ry q (hs _ _))

def rIxL (K : PySem.W.Frag) : R2 := fun x y H Q => ∃ p xs i v, x = .ref p ∧ y = .int i ∧ SqL K H p xs ∧ atI xs i = some v ∧ Q v H
def rIxT (K : PySem.W.Frag) : R2 := fun x y H Q => ∃ p xs i v, x = .ref p ∧ y = .int i ∧ SqT K H p xs ∧ atI xs i = some v ∧ Q v H
def rIxS : R2 := fun x y H Q => ∃ z i c, x = .str z ∧ y = .int i ∧ z.length ≤ sizeLine ∧ atI z.cps.toList i = some c ∧ Q (.str ⟨#[c]⟩) H
theorem ix_list : IxR X (rIxL X.K) := by
  intro value slice pins s σ H x y v u Q I rx ry h hs
  obtain ⟨p, xs, i, z, rfl, rfl, hq, he, q⟩ := h
  cases rx
  obtain ⟨t, rfl⟩ := ry
  obtain ⟨its, r, pl, hz⟩ := I.list hq
  obtain ⟨j, h1, h2, h3, h4, h5⟩ := atI_get he
  obtain ⟨w, ew, rw'⟩ := r.get h2
  have hl := r.length
  have hn := line63
  have fin : EP X pins σ Q w s := ⟨z, H, I, rw', q⟩
  by_cases h0 : 0 ≤ i
  · have hj : i.toNat = j := by
      rw [seqIndex_of h0 h5] at h1
      exact Option.some.inj h1
    exact item_listR pl.isList h0 (by omega) (by rw [hj]; simpa using ew) fin hs
  · have hj : (i + (its.toArray.size : Int)).toNat = j := by
      rw [seqIndex_neg (by omega) h4] at h1
      rw [List.size_toArray, ← hl]
      exact Option.some.inj h1
    exact subscriptTail_builtinR (x := w) pl.isList.typeIs slot_list_getitem.lookup
      (wpAny_getItem_list_neg (Q := fun r s' => r = w ∧ EP X pins σ Q r s') pl.isList (by omega) (by rw [List.size_toArray] <;> omega) (by omega) (by rw [hj]; simpa using ew) ⟨rfl, fin⟩) hs
theorem ix_tup : IxR X (rIxT X.K) := by
  intro value slice pins s σ H x y v u Q I rx ry h hs
  obtain ⟨p, xs, i, z, rfl, rfl, hq, he, q⟩ := h
  cases rx
  obtain ⟨t, rfl⟩ := ry
  obtain ⟨its, r, pl, hz⟩ := I.tuple hq
  obtain ⟨j, h1, h2, h3, h4, h5⟩ := atI_get he
  obtain ⟨w, ew, rw'⟩ := r.get h2
  have hl := r.length
  have hn := line63
  have fin : EP X pins σ Q w s := ⟨z, H, I, rw', q⟩
  exact subscriptTail_builtinR (x := w) pl.typeIs slot_tuple_getitem.lookup
    (getItem_tuple (j := j) (Q := fun r s' => r = w ∧ EP X pins σ Q r s') pl (by omega) (by omega) (by rw [List.size_toArray, ← hl]; exact h1) (by simpa using ew) ⟨rfl, fin⟩) hs
theorem ix_str : IxR X rIxS := by
  intro value slice pins s σ H x y v u Q I rx ry h hs
  obtain ⟨z, i, c, rfl, rfl, hz, he, q⟩ := h
  obtain ⟨t, rfl⟩ := rx
  obtain ⟨t', rfl⟩ := ry
  obtain ⟨j, h1, h2, h3, h4, h5⟩ := atI_get he
  have hl : z.cps.toList.length = z.length := by simp [Str.length]
  rw [hl] at h1 h4 h5
  have hn := line63
  exact tail_any (typeIs_str s z t) slot_str_getitem.lookup (getItem_str (c := c) (by
    have e1 : decide (i < -(2 ^ 63 : Int)) = false := decide_eq_false (by omega)
    have e2 : decide (i ≥ 2 ^ 63) = false := decide_eq_false (by omega)
    rw [e1, e2, Bool.or_false]) (by rw [h1]; simpa using h2) ⟨.str ⟨#[c]⟩, H, I.tok _, ⟨_, rfl⟩, q⟩) hs
/-- list, tuple or str -/
def rIx (K : PySem.W.Frag) : R2 := fun x y H Q => rIxL K x y H Q ∨ rIxT K x y H Q ∨ rIxS x y H Q
theorem ix_seq : IxR X (rIx X.K) := ix_list.or (ix_tup.or ix_str)

/-! ### xs[i] = v, any sign -/
/-- the list's object behind a store -/
theorem mapSeq_set (its : List Value) (n j : Nat) (u : Value) : Obj.mapSeq (·.setIfInBounds j u) { cls := .type "list", data := .seq its.toArray n } = { cls := .type "list", data := .seq (its.set j u).toArray n } := by
  simp [Obj.mapSeq]
theorem Inv.lst {pins : List (Addr × Obj)} {σ : St} {H : Hp} {s : Shared} {p : Addr} {xs : List V} (I : Inv X pins σ H s) (h : H p = some (.lst xs)) :
    ∃ (its : List Value) (n : Nat), Vals xs its ∧ s.heap.get? p = some { cls := .type "list", data := .seq its.toArray n } ∧ xs.length ≤ sizeLine := by
  obtain ⟨z, its, n, r, e⟩ := I.hok p _ h
  exact ⟨its, n, r, e, z⟩
/-- the list at p is written by an update of its object -/
theorem Inv.lstUpd {pins : List (Addr × Obj)} {σ : St} {H : Hp} {s : Shared} {p : Addr} {xs ys : List V} {its its' : List Value} {n n' : Nat} {f : Obj → Obj} (I : Inv X pins σ H s) (h : H p = some (.lst xs))
    (ho : s.heap.get? p = some { cls := .type "list", data := .seq its.toArray n }) (hf : f { cls := .type "list", data := .seq its.toArray n } = { cls := .type "list", data := .seq its'.toArray n' }) (r : Vals ys its') (hz : ys.length ≤ sizeLine) (t : Nat) :
    Inv X pins σ (upd H p (.lst ys)) { s with heap := s.heap.update p f, toks := t } := by
  have e : (s.heap.update p f).get? p = some { cls := .type "list", data := .seq its'.toArray n' } := by
    rw [Heap.get?_update_self f ho (by rw [hf] <;> rfl), hf]
  refine I.write (x := p) (e := p) (by rw [h]; trivial) (.inl rfl) (fun b u hb q => (Heap.get?_update_other _ _ (Ne.symm hb)).trans q) ⟨_, e⟩ ?_
  exact ⟨hz, its', n', r, e⟩
def rSetL : V → V → V → Hp → (Hp → Prop) → Prop := fun o i v H Q => ∃ p xs k j, o = .ref p ∧ i = .int k ∧ H p = some (.lst xs) ∧ ixN xs.length k = some j ∧ Q (upd H p (.lst (xs.set j v)))
theorem set_list : PSet X rSetL := by
  intro pins s σ H o i v ov iv u Q I ro ri rv h
  obtain ⟨p, xs, k, j, rfl, rfl, hp, hj, q⟩ := h
  cases ro
  obtain ⟨t, rfl⟩ := ri
  obtain ⟨its, n, r, ho, hz⟩ := I.lst hp
  obtain ⟨h1, h2, h3, h4⟩ := ixN_seq hj
  have hl := r.length
  have hn := line63
  have I' : Inv X pins σ (upd H p (.lst (xs.set j v))) { s with heap := s.heap.update p (Obj.mapSeq (·.setIfInBounds j u)) } :=
    I.lstUpd hp ho (mapSeq_set its n j u) (r.set rv j) (by rw [List.length_set]; exact hz) s.toks
  by_cases h0 : 0 ≤ k
  · have hk : k.toNat = j := by
      rw [seqIndex_of h0 h4] at h1
      exact Option.some.inj h1
    exact PySem.W.ki_setAt ho h0 (by omega) (by rw [List.size_toArray, ← hl]; exact h4) (by rw [hk]; exact ⟨_, I', q⟩)
  · have hk : (k + (its.toArray.size : Int)).toNat = j := by
      rw [seqIndex_neg (by omega) h3] at h1
      rw [List.size_toArray, ← hl]
      exact Option.some.inj h1
    exact PySem.W.ki_setBack ho (by omega) (by rw [List.size_toArray, ← hl]; exact h3) (by omega) (by rw [hk]; exact ⟨_, I', q⟩)

/-! ### slices -/
theorem slice_bounds (lo hi : Option Int) (n : Nat) : (sliceBounds lo hi none n).1 = ((HT.sIx n 0 lo : Nat) : Int) ∧ (sliceBounds lo hi none n).2.1 = ((HT.sIx n n hi : Nat) : Int) ∧ (sliceBounds lo hi none n).2.2 = 1 := by
  refine ⟨?_, ?_, rfl⟩
  · cases lo with
    | none => simp [sliceBounds, HT.sIx]
    | some i =>
      simp only [sliceBounds, HT.sIx, Option.getD_none, show (1 : Int) > 0 by decide, if_true]
      by_cases h : i < 0
      · simp only [h, if_true] <;> omega
      · simp only [h, if_false] <;> omega
  · cases hi with
    | none => simp [sliceBounds, HT.sIx]
    | some i =>
      simp only [sliceBounds, HT.sIx, Option.getD_none, show (1 : Int) > 0 by decide, if_true]
      by_cases h : i < 0
      · simp only [h, if_true] <;> omega
      · simp only [h, if_false] <;> omega
theorem slicePick_cut (its : List Value) (lo hi : Option Int) : slicePick its.toArray lo hi none = ((its.drop (HT.sIx its.length 0 lo)).take (HT.sIx its.length its.length hi - HT.sIx its.length 0 lo)).toArray := by
  obtain ⟨h1, h2, h3⟩ := slice_bounds lo hi its.toArray.size
  unfold slicePick
  rw [h1, h2, h3]
  simp only [sliceRange_one, pick_run, List.size_toArray] <;> rfl
/-- xs[lo:hi] of a list: a new list -/
def rSlL (K : PySem.W.Frag) : V → Option Int → Option Int → Hp → VK → Prop := fun x lo hi H Q => ∃ a xs, x = .ref a ∧ SqL K H a xs ∧ ∀ p, H p = none → Q (.ref p) (upd H p (.lst (cutV xs lo hi)))
theorem sl_list : SlR X (rSlL X.K) := by
  intro pins s σ H x v vl vu lo hi sl Q I rx hs pl pu h
  obtain ⟨a, xs, rfl, hx, q⟩ := h
  cases rx
  obtain ⟨its, r, ht, hz⟩ := I.list hx
  have hlen := r.length
  refine ⟨"list", _, slot_list_getitem.lookup, ht.isList.typeIs, ?_⟩
  refine wpAny_getItem_list_slice ht.isList hs pl pu .none (by simp) ?_ (by rw [List.size_toArray] <;> omega)
  rw [slicePick_cut, ← hlen]
  refine ⟨.ref s.heap.objs.size, _, I.laid (t' := s.toks) (o := .lst (cutV xs lo hi)) (fun b ob q => Heap.get?_push_of_some _ q) (Nat.le_refl _) ?_, rfl, q _ (I.hok.fresh (Nat.le_refl _))⟩
  exact ⟨Nat.le_trans (cutV_length xs lo hi) hz, _, 0, (r.drop (HT.sIx xs.length 0 lo)).take (HT.sIx xs.length xs.length hi - HT.sIx xs.length 0 lo), Heap.get?_push_size _ rfl⟩

/-! ### in, not in: flat items -/
def flatV : V → Bool
  | .non => true
  | .bl _ => true
  | .int _ => true
  | .str _ => true
  | _ => false
/-- == of flat values -/
def eqV : V → V → Bool
  | .non, .non => true
  | .bl a, .bl b => a == b
  | .bl a, .int b => (if a then 1 else 0) == b
  | .int a, .bl b => a == (if b then 1 else 0)
  | .int a, .int b => a == b
  | .str a, .str b => a == b
  | _, _ => false
theorem eqAt_V {A : Around} {s : Shared} {y x : V} {u v : Value} (ry : RelV y u) (rx : RelV x v) (fy : flatV y = true) (fx : flatV x = true) : SeqAt.EqAt A s u v (eqV y x) := by
  cases y with
  | non =>
    cases ry
    cases x with
    | non => cases rx; exact SeqAt.EqAt.same _
    | bl b => cases rx; exact SeqAt.EqAt.none_bool b
    | int b => obtain ⟨t, rfl⟩ := rx; exact SeqAt.EqAt.none_int b t
    | str b => obtain ⟨t, rfl⟩ := rx; exact SeqAt.EqAt.none_str b t
    | _ => exact absurd (show false = true from fx) Bool.false_ne_true
  | bl a =>
    cases ry
    cases x with
    | non => cases rx; exact SeqAt.EqAt.bool_none a
    | bl b => cases rx; exact SeqAt.EqAt.bool_bool a b
    | int b => obtain ⟨t, rfl⟩ := rx; exact SeqAt.EqAt.bool_int a b t
    | str b => obtain ⟨t, rfl⟩ := rx; exact SeqAt.EqAt.bool_str a b t
    | _ => exact absurd (show false = true from fx) Bool.false_ne_true
  | int a =>
    obtain ⟨t', rfl⟩ := ry
    cases x with
    | non => cases rx; exact SeqAt.EqAt.int_none a t'
    | bl b => cases rx; exact SeqAt.EqAt.int_bool a t' b
    | int b => obtain ⟨t, rfl⟩ := rx; exact SeqAt.EqAt.int_int a t' b t
    | str b => obtain ⟨t, rfl⟩ := rx; exact SeqAt.EqAt.int_str a t' b t
    | _ => exact absurd (show false = true from fx) Bool.false_ne_true
  | str a =>
    obtain ⟨t', rfl⟩ := ry
    cases x with
    | non => cases rx; exact SeqAt.EqAt.str_none a t'
    | bl b => cases rx; exact SeqAt.EqAt.str_bool a t' b
    | int b => obtain ⟨t, rfl⟩ := rx; exact SeqAt.EqAt.str_int a t' b t
    | str b => obtain ⟨t, rfl⟩ := rx; exact SeqAt.EqAt.str_str a t' b t
    | _ => exact absurd (show false = true from fx) Bool.false_ne_true
  | _ => exact absurd (show false = true from fy) Bool.false_ne_true
/-- the items' answers, read off the values (a value's own answer does not lean on its token) -/
def eqU (x : V) (u : Value) : Bool := match u with
  | .none => eqV .non x
  | .bool b => eqV (.bl b) x
  | .int i _ => eqV (.int i) x
  | .str z _ => eqV (.str z) x
  | _ => false
theorem eqU_of {x y : V} {u : Value} (r : RelV y u) (f : flatV y = true) : eqU x u = eqV y x := by
  cases y with
  | non => cases r; rfl
  | bl b => cases r; rfl
  | int i => obtain ⟨t, rfl⟩ := r; rfl
  | str z => obtain ⟨t, rfl⟩ := r; rfl
  | _ => exact absurd (show false = true from f) Bool.false_ne_true
theorem any_eqU {x : V} : ∀ {xs : List V} {us : List Value}, Vals xs us → xs.all flatV = true → us.any (eqU x) = xs.any fun y => eqV y x
  | _, _, .nil, _ => rfl
  | y :: xs, u :: us, .cons r t, f => by
    rw [List.all_cons, Bool.and_eq_true] at f
    rw [List.any_cons, List.any_cons, eqU_of r f.1, any_eqU t f.2]
theorem mem_eqAt {A : Around} {s : Shared} {x : V} {v : Value} (rx : RelV x v) (fx : flatV x = true) : ∀ {xs : List V} {us : List Value}, Vals xs us → xs.all flatV = true → ∀ u ∈ us, SeqAt.EqAt A s u v (eqU x u)
  | _, _, .nil, _ => fun u hu => by cases hu
  | y :: xs, u :: us, .cons r t, f => fun u' hu => by
    rw [List.all_cons, Bool.and_eq_true] at f
    rcases List.mem_cons.mp hu with rfl | hu
    · rw [eqU_of r f.1]; exact eqAt_V r rx f.1 fx
    · exact mem_eqAt rx fx t f.2 u' hu
def inV (x : V) (xs : List V) : Bool := xs.any fun y => eqV y x
/-- x in a list or tuple of flat items -/
def rIn (K : PySem.W.Frag) (neg : Bool) : R2 := fun x y H Q => ∃ p xs, y = .ref p ∧ (SqL K H p xs ∨ SqT K H p xs) ∧ flatV x = true ∧ xs.all flatV = true ∧ Q (.bl (if neg then !inV x xs else inV x xs)) H
theorem op_in_seq : OpR X (compareOp .In) (rIn X.K false) := by
  intro pins s σ H x y v u Q I rx ry h
  obtain ⟨p, xs, rfl, hq, fx, fs, q⟩ := h
  cases ry
  rcases hq with hq | hq
  · obtain ⟨its, r, pl, hz⟩ := I.list hq
    refine SeqAt.in_listAt (eqU x) pl.isList (fun w hw => mem_eqAt rx fx r fs w (by simpa using hw)) ⟨.bl _, H, I, rfl, ?_⟩
    rw [show its.toArray.any (eqU x) = its.any (eqU x) by simp, any_eqU r fs]
    exact q
  · obtain ⟨its, r, pl, hz⟩ := I.tuple hq
    refine SeqAt.in_tupleAt (eqU x) pl (fun w hw => mem_eqAt rx fx r fs w (by simpa using hw)) ⟨.bl _, H, I, rfl, ?_⟩
    rw [show its.toArray.any (eqU x) = its.any (eqU x) by simp, any_eqU r fs]
    exact q
theorem op_notIn_seq : OpR X (compareOp .NotIn) (rIn X.K true) := by
  intro pins s σ H x y v u Q I rx ry h
  obtain ⟨p, xs, rfl, hq, fx, fs, q⟩ := h
  cases ry
  rcases hq with hq | hq
  · obtain ⟨its, r, pl, hz⟩ := I.list hq
    refine SeqAt.notIn_listAt (eqU x) pl.isList (fun w hw => mem_eqAt rx fx r fs w (by simpa using hw)) ⟨.bl _, H, I, rfl, ?_⟩
    rw [show its.toArray.any (eqU x) = its.any (eqU x) by simp, any_eqU r fs]
    exact q
  · obtain ⟨its, r, pl, hz⟩ := I.tuple hq
    refine SeqAt.notIn_tupleAt (eqU x) pl (fun w hw => mem_eqAt rx fx r fs w (by simpa using hw)) ⟨.bl _, H, I, rfl, ?_⟩
    rw [show its.toArray.any (eqU x) = its.any (eqU x) by simp, any_eqU r fs]
    exact q
/-! ### len, list(x), tuple(x) of any list or tuple that is read -/
theorem call_len_seq : CallR X (.builtin "len") (fun xs H Q => ∃ p ys, xs = [.ref p] ∧ (SqL X.K H p ys ∨ SqT X.K H p ys) ∧ Q (.int ys.length) H) := by
  intro pins s σ H xs us Q I r h
  obtain ⟨p, ys, rfl, hq, q⟩ := h
  obtain ⟨u, rfl, rx⟩ := vals1 r
  cases rx
  have hn := line63
  rcases hq with hq | hq
  · obtain ⟨its, r', pl, hz⟩ := I.list hq
    have hlen := r'.length
    exact Calls.call_len_list pl.isList (by simp only [List.size_toArray] <;> omega) ⟨.int ys.length, H, I.tok _, ⟨s.toks + 1, by rw [List.size_toArray, hlen]⟩, q⟩
  · obtain ⟨its, r', pl, hz⟩ := I.tuple hq
    have hlen := r'.length
    exact len_tuple pl (by simp only [List.size_toArray] <;> omega) ⟨.int ys.length, H, I.tok _, ⟨s.toks + 1, by rw [List.size_toArray, hlen]⟩, q⟩
theorem call_len_str : CallR X (.builtin "len") (fun xs H Q => ∃ z, xs = [.str z] ∧ z.length ≤ sizeLine ∧ Q (.int z.length) H) := by
  intro pins s σ H xs us Q I r h
  obtain ⟨z, rfl, hz, q⟩ := h
  obtain ⟨u, rfl, t, rfl⟩ := vals1 r
  have hn := line63
  exact len_str (by omega) ⟨.int z.length, H, I.tok _, ⟨_, rfl⟩, q⟩
theorem CallR.or {f : Value} {r r' : List V → Hp → VK → Prop} (h : CallR X f r) (h' : CallR X f r') : CallR X f (fun xs H Q => r xs H Q ∨ r' xs H Q) := by
  intro pins s σ H xs us Q I rs q
  rcases q with q | q
  · exact h pins s σ H xs us Q I rs q
  · exact h' pins s σ H xs us Q I rs q
theorem call_list_of : CallR X (.type "list") (fun xs H Q => ∃ p ys, xs = [.ref p] ∧ (SqL X.K H p ys ∨ SqT X.K H p ys) ∧ ∀ l, H l = none → Q (.ref l) (upd H l (.lst ys))) := by
  intro pins s σ H xs us Q I r h
  obtain ⟨p, ys, rfl, hq, q⟩ := h
  obtain ⟨u, rfl, rx⟩ := vals1 r
  cases rx
  have fin : ∀ (its : List Value), Vals ys its → ys.length ≤ sizeLine → ∀ (h' : Heap) (c' : Nat), (∀ b o', s.heap.get? b = some o' → h'.get? b = some o') →
      h'.get? s.heap.objs.size = some { cls := .type "list", dict := none, data := .seq its.toArray c', slots := #[] } → EP X pins σ Q (.ref s.heap.objs.size) { s with heap := h' } := fun its r' hz h' c' kp e =>
    ⟨.ref s.heap.objs.size, _, I.laid (t' := s.toks) kp (Nat.le_refl _) (show ObjOk X.prog X.w _ h' _ (.lst ys) from ⟨hz, its, c', r', e⟩), rfl, q _ (I.hok.fresh (Nat.le_refl _))⟩
  rcases hq with hq | hq
  · obtain ⟨its, r', pl, hz⟩ := I.list hq
    have hlen := r'.length
    obtain ⟨o, ho, hc, n, hd⟩ := pl.isList
    exact call_list_seq p (.inl rfl) ho hc hd (fun h' c' kp e => fin its r' hz h' c' kp e) (by simp only [List.size_toArray] <;> omega)
  · obtain ⟨its, r', pl, hz⟩ := I.tuple hq
    have hlen := r'.length
    obtain ⟨o, ho, hc, n, hd⟩ := pl
    exact call_list_seq p (.inr rfl) ho hc hd (fun h' c' kp e => fin its r' hz h' c' kp e) (by simp only [List.size_toArray] <;> omega)
theorem call_tuple_of : CallR X (.type "tuple") (fun xs H Q => ∃ p ys, xs = [.ref p] ∧ ((SqL X.K H p ys ∧ ∀ l, H l = none → Q (.ref l) (upd H l (.tup ys))) ∨ (SqT X.K H p ys ∧ Q (.ref p) H))) := by
  intro pins s σ H xs us Q I r h
  obtain ⟨p, ys, rfl, h⟩ := h
  obtain ⟨u, rfl, rx⟩ := vals1 r
  cases rx
  rcases h with ⟨hq, q⟩ | ⟨hq, q⟩
  · obtain ⟨its, r', pl, hz⟩ := I.list hq
    have hlen := r'.length
    refine call_tuple_list pl.isList (fun h' kp => ?_) (by simp only [List.size_toArray] <;> omega)
    have I1 : Inv X pins σ H { s with heap := h' } := I.kept (t' := s.toks) kp
    have I2 : Inv X pins σ (upd H h'.objs.size (.tup ys)) { s with heap := h'.push { cls := .type "tuple", data := .seq its.toArray } } :=
      I1.laid (t' := s.toks) (fun b o e => Heap.get?_push_of_some _ e) (Nat.le_refl _) (show ObjOk X.prog X.w _ _ _ (.tup ys) from ⟨hz, its, r', IsTup.new _ _, ND.new _ _ rfl⟩)
    exact ⟨.ref h'.objs.size, _, I2, rfl, q _ (I1.hok.fresh (Nat.le_refl _))⟩
  · obtain ⟨its, r', pl, hz⟩ := I.tuple hq
    exact call_tuple_same pl ⟨.ref p, H, I, rfl, q⟩

/-! ### the call of a builtin's method: o.m(..) -/
/-- the value is of that builtin type -/
def tyV (K : PySem.W.Frag) (T : String) (x : V) (H : Hp) : Prop := match x with
  | .str _ => T = "str"
  | .int _ => T = "int"
  | .ref p => (T = "list" ∧ ∃ xs, SqL K H p xs) ∨ (T = "tuple" ∧ ((∃ o, K.lookup p = some o ∧ o.cls = .type "tuple" ∧ o.dict = none) ∨ ∃ xs, SqT K H p xs)) ∨
      (T = "dict" ∧ ((∃ kvs, H p = some (.dK kvs)) ∨ ∃ kvs, H p = some (.dT kvs))) ∨ (T = "set" ∧ ∃ S n, H p = some (.set S n))
  | _ => False
theorem tyV_is {pins : List (Addr × Obj)} {σ : St} {H : Hp} {s : Shared} {T : String} {x : V} {v : Value} (I : Inv X pins σ H s) (r : RelV x v) (ty : tyV X.K T x H) :
    s.TypeIs v T ∧ ∀ a, v = .ref a → ∃ ob, s.heap.get? a = some ob ∧ ob.dict = none := by
  cases x with
  | str z =>
    obtain ⟨t, rfl⟩ := r
    cases (show T = "str" from ty)
    exact ⟨typeIs_str s z t, fun _ e => nomatch e⟩
  | int i =>
    obtain ⟨t, rfl⟩ := r
    cases (show T = "int" from ty)
    exact ⟨typeIs_int s i t, fun _ e => nomatch e⟩
  | ref p =>
    cases r
    rcases ty with ⟨rfl, xs, hq⟩ | ⟨rfl, ⟨o, hk, hc, hd⟩ | ⟨xs, hq⟩⟩ | ⟨rfl, hk⟩ | ⟨rfl, S, n, hk⟩
    · obtain ⟨its, _, pl, _⟩ := I.list hq
      refine ⟨pl.isList.typeIs, fun a e => ?_⟩
      cases e
      obtain ⟨o, n, e, c, hd, _⟩ := pl
      exact ⟨o, e, hd⟩
    · refine ⟨⟨o, I.kIn p o hk, hc⟩, fun a e => ?_⟩
      cases e
      exact ⟨o, I.kIn _ o hk, hd⟩
    · obtain ⟨its, _, ⟨o, e, c, _⟩, _⟩ := I.tuple hq
      obtain ⟨o2, e2, d2⟩ := I.tupleD hq
      refine ⟨⟨o, e, c⟩, fun a ez => ?_⟩
      cases ez
      exact ⟨o2, e2, d2⟩
    · have z : ∃ o, s.heap.get? p = some o ∧ o.ExactDict := by
        rcases hk with ⟨kvs, hk⟩ | ⟨kvs, hk⟩
        · obtain ⟨_, _, _, _, o, _, _, e, ex, _⟩ := I.hok p _ hk
          exact ⟨o, e, ex⟩
        · obtain ⟨_, _, _, _, o, _, _, e, ex, _⟩ := I.hok p _ hk
          exact ⟨o, e, ex⟩
      obtain ⟨o, e, ex⟩ := z
      refine ⟨⟨o, e, ex.1⟩, fun a e2 => ?_⟩
      cases e2
      exact ⟨o, e, ex.2.1⟩
    · obtain ⟨o, _, _, _, e, ex, _⟩ := I.hok p _ hk
      refine ⟨⟨o, e, ex.1⟩, fun a e2 => ?_⟩
      cases e2
      exact ⟨o, e, ex.2.1⟩
  | _ => exact False.elim ty
def tBM (K : PySem.W.Frag) (T : String) (r : V → List V → Hp → VK → Prop) (to : TE) (t : TA) : TE := fun σ H Q => to σ H fun x H1 => tyV K T x H1 ∧ t σ H1 fun xs H2 => r x xs H2 Q
variable {o e : Expr} {es : List Expr} {to : TE} {t : TA} {name : Str} {apos cpos : Pos} {T id : String} {r : V → List V → Hp → VK → Prop}
theorem pe_bm (pa : PlainAttrs T) (slot : Slot T name id) (hty : typeOf (.builtin id) = pure (.type "method_descriptor")) (hm : MtR X id r) (ho : PE X o to) (ha : PA X (e :: es) t)
    (hbase : attributeBase o name X.env (eval o X.env) = eval o X.env := by rfl)
    (hfew : ((backTo cpos (starEach (e :: es) X.env)).all (fun x => !x.1) && (backToKw cpos (keywordEach [] X.env)).all (fun x => x.1.isSome)
      && decide ((e :: es).length + ([] : List Keyword).length + (if ([] : List Keyword).isEmpty then 0 else 1) < 30)) = true := by rfl)
    (hline : (apos.endLine == cpos.line) = true := by rfl) (hs : starEach (e :: es) X.env = (false, eval e X.env) :: starEach es X.env := by rfl) (hplain : (backTo cpos (starEach es X.env)).any (·.1) = false := by rfl) :
    PE X (.Call (.Attribute o name apos) (e :: es) [] cpos) (tBM X.K T r to t) := by
  intro pins s σ H Q I h
  refine wpAny_Call_method_late hbase hfew hline rfl (thn (ho pins s σ H _ I h) fun v s1 ⟨x, H1, I1, r1, ty, q1⟩ => ?_)
  obtain ⟨h1, h2⟩ := tyV_is I1 r1 ty
  refine ⟨T, id, pa, slot, hty, h1, h2, ?_⟩
  have hA := ha cpos pins s1 σ H1 _ I1 q1
  rw [hs] at hA ⊢
  refine Calls.callWith_builtin (by show (false || (backTo cpos (starEach es X.env)).any (·.1)) = false; rw [hplain] <;> rfl) (Calls.evalArgs_plain ?_)
  exact thn hA fun us s2 ⟨vs, H2, I2, r2, q2⟩ => hm pins s2 σ H2 x vs v us Q I2 r1 r2 q2
/- xs.append(e), list.index on a module's tuple .. are MtR facts of 06m -/
end
end L2

namespace L2
open PySem PySem.Spec PyProof.Rows

/-! ### lists of values -/
theorem Vals.one : ∀ {x : V} {us : List Value}, Vals [x] us → ∃ u, us = [u] ∧ RelV x u
  | _, _, .cons r .nil => ⟨_, rfl, r⟩
theorem Vals.two : ∀ {x y : V} {us : List Value}, Vals [x, y] us → ∃ u v, us = [u, v] ∧ RelV x u ∧ RelV y v
  | _, _, _, .cons r (.cons q .nil) => ⟨_, _, rfl, r, q⟩
theorem Vals.zero : ∀ {us : List Value}, Vals [] us → us = []
  | _, .nil => rfl
theorem Vals.eraseIdx : ∀ {xs : List V} {us : List Value} (i : Nat), Vals xs us → Vals (xs.eraseIdx i) (us.eraseIdx i)
  | _, _, _, .nil => .nil
  | _, _, 0, .cons _ t => t
  | _, _, i + 1, .cons r t => .cons r (Vals.eraseIdx i t)
theorem Vals.reverse {xs : List V} {us : List Value} (h : Vals xs us) : Vals xs.reverse us.reverse := by
  induction h with
  | nil => exact .nil
  | cons r t ih => rw [List.reverse_cons, List.reverse_cons]; exact Vals.append ih (.cons r .nil)
section
variable {X : Cx} {pins : List (Addr × Obj)} {σ : St} {H : Hp} {s : Shared} {l b : Addr} {xs ys zs : List V}

/-! ### the two steps: a tracked list is rewritten, a new list is laid -/
theorem Inv.lnew {its : List Value} {t' : Nat} (I : Inv X pins σ H s) (hv : Vals ys its) (hz : ys.length ≤ sizeLine) :
    Inv X pins σ (upd H s.heap.objs.size (.lst ys)) { s with heap := s.heap.push { cls := .type "list", data := .seq its.toArray }, toks := t' } :=
  I.laid (fun _ _ q => Heap.get?_push_of_some _ q) (Nat.le_refl _) ⟨hz, its, 0, hv, Heap.get?_push_size _ rfl⟩
theorem Inv.fresh (I : Inv X pins σ H s) : H s.heap.objs.size = none := I.hok.fresh (Nat.le_refl _)
theorem Inv.lstM (I : Inv X pins σ H s) (hH : H l = some (.lst xs)) : xs.length ≤ sizeLine ∧ ∃ (its : List Value) (n : Nat), Vals xs its ∧ xs.length = its.length ∧ s.heap.get? l = some { cls := .type "list", data := .seq its.toArray n } := by
  obtain ⟨z, its, n, r, e⟩ := I.hok l _ hH
  exact ⟨z, its, n, r, r.length, e⟩

end

section
variable {X : Cx}

/-! ### methods -/
/-! ### list + list, list += list, list * int -/
def rCat : R2 := fun x y H Q => ∃ l b xs zs, x = .ref l ∧ y = .ref b ∧ H l = some (.lst xs) ∧ H b = some (.lst zs) ∧ xs.length + zs.length ≤ sizeLine ∧ ∀ p, H p = none → Q (.ref p) (upd H p (.lst (xs ++ zs)))
theorem op_cat : OpR X (binaryOp .Add) rCat := by
  intro pins s σ H x y v u Q I rx ry h
  obtain ⟨l, b, xs, zs, rfl, rfl, hH, hB, hz, q⟩ := h
  cases rx
  cases ry
  obtain ⟨z, its, n, r, hl, e⟩ := I.lstM hH
  obtain ⟨z2, its2, n2, r2, hl2, e2⟩ := I.lstM hB
  refine PySem.P.add_list e e2 ?_ (by rw [List.size_toArray, List.size_toArray]; omega)
  have ea : its.toArray ++ its2.toArray = (its ++ its2).toArray := by simp
  rw [ea]
  exact ⟨.ref _, _, I.lnew (t' := s.toks) (r.append r2) (by rw [List.length_append]; omega), rfl, q _ I.fresh⟩
/-! ### del xs[i] -/
end

/-! ### xs[a:b] = ys -/
section
variable {prog : Program} {w : World} {A : Around} {E : Value → Shared → Prop} {s : Shared}
end

section
variable {X : Cx}
end
end L2

namespace L2
open PySem PySem.Spec PyProof.Rows

theorem Vals.ints : ∀ {ns : List Int} {us : List Value}, Vals (ns.map V.int) us → IntsAre us ns
  | [], us, h => by
    rw [List.map_nil] at h
    cases h
    exact IntsAre.nil
  | n :: ns, us, h => by
    rw [List.map_cons] at h
    cases h with
    | cons r t =>
      obtain ⟨k, rfl⟩ := r
      exact IntsAre.cons n k (Vals.ints t)
theorem vals_of_ints : ∀ {us : List Value} {ns : List Int}, IntsAre us ns → Vals (ns.map V.int) us
  | _, _, .nil => by rw [List.map_nil]; exact Paired.nil
  | _, _, .cons n t h => by rw [List.map_cons]; exact Paired.cons (show RelV (V.int n) (Value.int n t) from ⟨t, rfl⟩) (vals_of_ints h)
theorem Vals.strs : ∀ {xs : List Str} {us : List Value}, Vals (xs.map V.str) us → StrsAre us xs
  | [], us, h => by
    rw [List.map_nil] at h
    cases h
    exact StrsAre.nil
  | x :: xs, us, h => by
    rw [List.map_cons] at h
    cases h with
    | cons r t =>
      obtain ⟨k, rfl⟩ := r
      exact StrsAre.cons x k (Vals.strs t)
theorem Vals.ref1 {a : Addr} {us : List Value} (r : Vals [V.ref a] us) : us = [Value.ref a] := by
  cases r with
  | cons r t =>
    cases t
    cases r
    rfl
/-! ### the library's walks over a list of ints, kept objects alone -/
section
variable {prog : Program} {w : World} {A : Around} {E : Value → Shared → Prop} {s : Shared} {l : Addr} {its : List Value} {ns : List Int} {Q : Value → Shared → Prop}
end

/-! ### the calls, by values (CallR of 03t; MtR of 06l) -/
section
variable {X : Cx}
/-! sorted, sort (fewer than 64 items: the library's own bound) -/
end

/-! ### list.index, flat items -/
section
variable {X : Cx}
def rIndex (K : PySem.W.Frag) : V → List V → Hp → VK → Prop := fun x xs H Q => ∃ (a : Addr) (ys : List V) (y : V) (j : Nat) (z : V), x = V.ref a ∧ xs = [y] ∧ SqL K H a ys ∧ flatV y = true ∧ ys.all flatV = true ∧ ys[j]? = some z ∧ eqV z y = true ∧
  (∀ (m : Nat) (z' : V), m < j → ys[m]? = some z' → eqV z' y = false) ∧ Q (.int (j : Nat)) H
theorem flat_at {ys : List V} (f : ys.all flatV = true) {j : Nat} {z : V} (h : ys[j]? = some z) : flatV z = true := List.all_eq_true.mp f z (List.mem_of_getElem? h)
theorem mt_index : MtR X "list.index" (rIndex X.K) := by
  intro pins s σ H x xs v us Q I rx rxs h
  obtain ⟨a, ys, y, j, z, rfl, rfl, hs, fy, fys, hz, hzj, hno, q⟩ := h
  cases rx
  cases rxs with
  | cons ry rt =>
    rename_i uy ut
    cases rt
    obtain ⟨its, rv, ⟨⟨cls, dd, data, sl⟩, n, ho, hc, hdn, hd⟩, hlen⟩ := I.list hs
    simp only at hc hd
    subst hc hd
    obtain ⟨u, hu, ru⟩ := rv.get hz
    obtain ⟨hjl, hje⟩ := List.getElem?_eq_some_iff.mp hu
    have hvl := rv.length
    have hj : j < its.toArray.size := by simpa using hjl
    have hsl := sizeLine_eq
    refine call_meets PySem.F.slot_list_index ⟨_, ho, rfl⟩ PySem.F.entry_list_index (PySem.F.args_list_index_2 _ _)
      (SeqAt.list_indexAt a its.toArray n dd sl uy (eqU y) j hj (by omega) ?_ ?_) ⟨ho, fun u' hu' => mem_eqAt ry fy rv fys u' (by simpa using hu'), ?_⟩
    · have e1 : its.toArray[j] = u := by simpa using hje
      rw [e1, eqU_of ru (flat_at fys hz)]
      exact hzj
    · intro m hm hmj
      have hml : m < its.length := by simpa using hm
      have hmy : m < ys.length := by omega
      have hy' : ys[m]? = some ys[m] := List.getElem?_eq_getElem hmy
      obtain ⟨u2, hu2, ru2⟩ := rv.get hy'
      obtain ⟨_, hme⟩ := List.getElem?_eq_some_iff.mp hu2
      have e1 : its.toArray[m] = u2 := by simpa using hme
      rw [e1, eqU_of ru2 (flat_at fys hy')]
      exact hno m _ hmj hy'
    · exact ⟨.int (j : Nat), H, I.tok _, ⟨_, rfl⟩, q⟩
end

/-! ### type(x) of an own instance; is, is not of a module's class -/
section
variable {X : Cx}
end

/-! ### any(xs), all(xs) of a list of bools -/
section
variable {X : Cx}
end

/-! ### == and != of data at any depth: none, bools, ints, texts, lists, tuples -/
mutual
inductive Dp (K : PySem.W.Frag) (H : Hp) : V → PyData → Prop
  | non : Dp K H .non .none
  | bl (b : Bool) : Dp K H (.bl b) (.bool b)
  | int (i : Int) : Dp K H (.int i) (.int i)
  | str (x : Str) : Dp K H (.str x) (.str x)
  | lst {a : Addr} {xs : List V} {ds : List PyData} : SqL K H a xs → DpAll K H xs ds → Dp K H (.ref a) (.list ds)
  | tup {a : Addr} {xs : List V} {ds : List PyData} : SqT K H a xs → DpAll K H xs ds → Dp K H (.ref a) (.tuple ds)
inductive DpAll (K : PySem.W.Frag) (H : Hp) : List V → List PyData → Prop
  | nil : DpAll K H [] []
  | cons {v : V} {vs : List V} {d : PyData} {ds : List PyData} : Dp K H v d → DpAll K H vs ds → DpAll K H (v :: vs) (d :: ds)
end
section
variable {X : Cx} {pins : List (Addr × Obj)} {σ : St} {H : Hp} {s : Shared}
mutual
theorem Dp.reads (I : Inv X pins σ H s) : ∀ (d : PyData) (v : V) (u : Value), Dp X.K H v d → RelV v u → ∃ as, Reads s.heap u d as
  | .none, _, _, h, r => by
    cases h
    cases r
    exact ⟨_, Reads.none⟩
  | .bool b, _, _, h, r => by
    cases h
    cases r
    exact ⟨_, Reads.bool b⟩
  | .int i, _, _, h, r => by
    cases h
    obtain ⟨t, rfl⟩ := r
    exact ⟨_, Reads.int i t⟩
  | .str x, _, _, h, r => by
    cases h
    obtain ⟨t, rfl⟩ := r
    exact ⟨_, Reads.str x t⟩
  | .list ds, _, _, h, r => by
    cases h with
    | lst hs ha =>
      cases r
      obtain ⟨its, rv, ⟨o, n, ho, hc, _, hd⟩, _⟩ := I.list hs
      obtain ⟨as, hr⟩ := Dp.readsAll I ds _ its ha rv
      exact ⟨_, Reads.list ho hc hd hr⟩
  | .tuple ds, _, _, h, r => by
    cases h with
    | tup hs ha =>
      cases r
      obtain ⟨its, rv, ⟨o, ho, hc, n, hd⟩, _⟩ := I.tuple hs
      obtain ⟨as, hr⟩ := Dp.readsAll I ds _ its ha rv
      exact ⟨_, Reads.tuple ho hc hd hr⟩
  | .dict _, _, _, h, _ => by cases h
theorem Dp.readsAll (I : Inv X pins σ H s) : ∀ (ds : List PyData) (vs : List V) (us : List Value), DpAll X.K H vs ds → Vals vs us → ∃ as, ReadsAll s.heap us ds as
  | [], _, _, h, r => by
    cases h
    cases r
    exact ⟨_, ReadsAll.nil⟩
  | d :: ds, _, _, h, r => by
    cases h with
    | cons h1 h2 =>
      cases r with
      | cons r1 r2 =>
        obtain ⟨as, q1⟩ := Dp.reads I d _ _ h1 r1
        obtain ⟨bs, q2⟩ := Dp.readsAll I ds _ _ h2 r2
        exact ⟨_, ReadsAll.cons q1 q2⟩
end
end
section
variable {X : Cx}
def rEqD (K : PySem.W.Frag) : R2 := fun x y H Q => ∃ d e, Dp K H x d ∧ Dp K H y e ∧ SeqAt.shaped d = true ∧ SeqAt.shaped e = true ∧ Q (.bl (PyData.eqv d e)) H
def rNeD (K : PySem.W.Frag) : R2 := fun x y H Q => ∃ d e, Dp K H x d ∧ Dp K H y e ∧ SeqAt.shaped d = true ∧ SeqAt.shaped e = true ∧ Q (.bl (!PyData.eqv d e)) H
theorem op_eqD (hu : X.A.units + 64 < cLine) : OpR X (compareOp .Eq) (rEqD X.K) := by
  intro pins s σ H x y v u Q I rx ry h
  obtain ⟨d, e, hd, he, sd, se, q⟩ := h
  obtain ⟨as, r1⟩ := Dp.reads I d x v hd rx
  obtain ⟨bs, r2⟩ := Dp.reads I e y u he ry
  exact SeqAt.compareEq_shaped r1 r2 sd se hu ⟨.bl _, H, I, rfl, q⟩
theorem op_neD (hu : X.A.units + 64 < cLine) : OpR X (compareOp .NotEq) (rNeD X.K) := by
  intro pins s σ H x y v u Q I rx ry h
  obtain ⟨d, e, hd, he, sd, se, q⟩ := h
  obtain ⟨as, r1⟩ := Dp.reads I d x v hd rx
  obtain ⟨bs, r2⟩ := Dp.reads I e y u he ry
  exact SeqAt.compareNe_shaped r1 r2 sd se hu ⟨.bl _, H, I, rfl, q⟩
end
end L2

namespace L2
open PySem PySem.Spec PyProof.Rows
abbrev CellAt (h : Heap) (c : Addr) (v : Option Value) : Prop := h.IsCell c v
def relS (scope sc : Scope) : Scope :=
  { scope with names := scope.names.map fun (n, k) => if (k == .free && sc.kind == .function && sc.names.lookup n == some .cell) then (n, .cell) else (n, k) }

def cloFrom (cells : List (Str × Addr)) : List (Str × NameKind) → List (Str × Addr) → List (Str × Addr)
  | [], acc => acc
  | (n, k) :: r, acc => if k == .free then cloFrom cells r ((n, (cells.lookup n).getD 0) :: acc) else cloFrom cells r acc

theorem closure_loop (env : Env) (f : Str × NameKind → List (Str × Addr) → Sem (ForInStep (List (Str × Addr))))
    (hf : ∀ n k c, f (n, k) c = if k == .free then (do let a ← cellOf env n; pure (.yield ((n, a) :: c))) else pure (.yield c)) :
    ∀ (names : List (Str × NameKind)) (acc : List (Str × Addr)), (∀ y ∈ names, y.2 = .free → ∃ c, env.cells.lookup y.1 = some c) → forIn names acc f = pure (cloFrom env.cells names acc)
  | [], acc, _ => by rw [List.forIn_nil]; rfl
  | (n, k) :: r, acc, h => by
    rw [List.forIn_cons, hf]
    have ih := fun acc => closure_loop env f hf r acc fun y hy => h y (List.mem_cons_of_mem _ hy)
    unfold cloFrom
    by_cases hk : (k == NameKind.free) = true
    · rw [if_pos hk, if_pos hk]
      obtain ⟨c, hc⟩ := h (n, k) List.mem_cons_self (by simpa using hk)
      have e : cellOf env n = pure c := by unfold cellOf; rw [hc]
      rw [e]
      have e2 : (env.cells.lookup n).getD 0 = c := by rw [hc]; rfl
      rw [e2]
      exact ih _
    · rw [if_neg hk, if_neg hk]
      exact ih _
theorem closure_ok {scope : Scope} {env : Env} (h : ∀ y ∈ scope.names, y.2 = .free → ∃ c, env.cells.lookup y.1 = some c) : closureFor scope env = pure (cloFrom env.cells scope.names []) := by
  simp only [closureFor]
  rw [closure_loop env _ (fun n k c => rfl) scope.names [] h]
  rfl

theorem mem_lookup {α : Type} : ∀ {l : List (Str × α)} {n : Str} {c : α}, (n, c) ∈ l → ∃ c', l.lookup n = some c'
  | (k, v) :: r, n, c, h => by
    rw [List.lookup_cons]
    cases hb : n == k with
    | true => exact ⟨_, rfl⟩
    | false =>
      rcases List.mem_cons.mp h with e | h
      · cases e; simp at hb
      · exact mem_lookup h

theorem cloFrom_mem {cells : List (Str × Addr)} : ∀ {names : List (Str × NameKind)} {acc : List (Str × Addr)} {n : Str} {c : Addr}, (n, c) ∈ cloFrom cells names acc → (n, c) ∈ acc ∨ ((n, .free) ∈ names ∧ c = (cells.lookup n).getD 0)
  | [], _, _, _, h => .inl h
  | (m, k) :: r, acc, n, c, h => by
    unfold cloFrom at h
    split at h
    · rename_i hk
      have hk : k = .free := by simpa using hk
      rcases cloFrom_mem h with h | ⟨h1, h2⟩
      · rcases List.mem_cons.mp h with e | h
        · cases e; exact .inr ⟨hk ▸ List.mem_cons_self, rfl⟩
        · exact .inl h
      · exact .inr ⟨List.mem_cons_of_mem _ h1, h2⟩
    · rcases cloFrom_mem h with h | ⟨h1, h2⟩
      · exact .inl h
      · exact .inr ⟨List.mem_cons_of_mem _ h1, h2⟩
theorem cloFrom_acc {cells : List (Str × Addr)} : ∀ {names : List (Str × NameKind)} {acc : List (Str × Addr)} {p : Str × Addr}, p ∈ acc → p ∈ cloFrom cells names acc
  | [], _, _, h => h
  | (m, k) :: r, acc, p, h => by
    unfold cloFrom
    split
    · exact cloFrom_acc (List.mem_cons_of_mem _ h)
    · exact cloFrom_acc h
theorem cloFrom_has {cells : List (Str × Addr)} : ∀ {names : List (Str × NameKind)} {acc : List (Str × Addr)} {n : Str}, (n, .free) ∈ names → (n, (cells.lookup n).getD 0) ∈ cloFrom cells names acc
  | (m, k) :: r, acc, n, h => by
    unfold cloFrom
    rcases List.mem_cons.mp h with e | h
    · cases e
      exact cloFrom_acc List.mem_cons_self
    · split
      · exact cloFrom_has h
      · exact cloFrom_has h

theorem cells_mem : ∀ {names : List (Str × NameKind)} {h : Heap} {acc : List (Str × Addr)} {x : Str} {c : Addr}, (x, c) ∈ cellsFrom h.objs.size names acc →
    (x, c) ∈ acc ∨ ((x, .cell) ∈ names ∧ h.objs.size ≤ c ∧ CellAt (pushCells h names) c none)
  | [], _, _, _, _, h => .inl h
  | (n, k) :: r, h, acc, x, c, hm => by
    unfold cellsFrom at hm
    unfold pushCells
    split at hm
    · rename_i hk
      rw [if_pos hk]
      have hk : k = .cell := by simpa using hk
      rw [← Heap.size_push h { cls := .type "cell", data := .cell none }] at hm
      rcases cells_mem hm with hm | ⟨h1, h2, h3⟩
      · rcases List.mem_cons.mp hm with e | hm
        · cases e
          exact .inr ⟨hk ▸ List.mem_cons_self, Nat.le_refl _, _, pushCells_keeps r _ _ _ (Heap.get?_push_size _ rfl), rfl⟩
        · exact .inl hm
      · rw [Heap.size_push] at h2
        exact .inr ⟨List.mem_cons_of_mem _ h1, Nat.le_of_succ_le h2, h3⟩
    · rename_i hk
      rw [if_neg hk]
      rcases cells_mem hm with hm | ⟨h1, h2, h3⟩
      · exact .inl hm
      · exact .inr ⟨List.mem_cons_of_mem _ h1, h2, h3⟩
theorem cells_acc : ∀ {names : List (Str × NameKind)} {n : Nat} {acc : List (Str × Addr)} {p : Str × Addr}, p ∈ acc → p ∈ cellsFrom n names acc
  | [], _, _, _, h => h
  | (m, k) :: r, n, acc, p, h => by
    unfold cellsFrom
    split
    · exact cells_acc (List.mem_cons_of_mem _ h)
    · exact cells_acc h
theorem cells_has : ∀ {names : List (Str × NameKind)} {n : Nat} {acc : List (Str × Addr)} {x : Str}, (x, .cell) ∈ names → ∃ c, (x, c) ∈ cellsFrom n names acc
  | (m, k) :: r, n, acc, x, h => by
    unfold cellsFrom
    rcases List.mem_cons.mp h with e | h
    · cases e
      exact ⟨n, cells_acc List.mem_cons_self⟩
    · split
      · exact cells_has h
      · exact cells_has h
theorem cells_inj : ∀ {names : List (Str × NameKind)} {h : Heap} {acc : List (Str × Addr)} {x y : Str} {c : Addr}, (∀ p ∈ acc, p.2 < h.objs.size) → (∀ x y c, (x, c) ∈ acc → (y, c) ∈ acc → x = y) →
    (x, c) ∈ cellsFrom h.objs.size names acc → (y, c) ∈ cellsFrom h.objs.size names acc → x = y
  | [], _, _, _, _, _, _, hi, h1, h2 => hi _ _ _ h1 h2
  | (n, k) :: r, h, acc, x, y, c, hl, hi, h1, h2 => by
    unfold cellsFrom at h1 h2
    split at h1
    · rename_i hk
      rw [if_pos hk] at h2
      rw [← Heap.size_push h { cls := .type "cell", data := .cell none }] at h1 h2
      refine cells_inj (h := h.push _) (fun p hp => ?_) (fun x y c a b => ?_) h1 h2
      · rw [Heap.size_push]
        rcases List.mem_cons.mp hp with rfl | hp
        · exact Nat.lt_succ_self _
        · exact Nat.lt_succ_of_lt (hl p hp)
      · rcases List.mem_cons.mp a with e | a <;> rcases List.mem_cons.mp b with e' | b
        · cases e; cases e'; rfl
        · cases e; exact absurd (hl _ b) (Nat.lt_irrefl _)
        · cases e'; exact absurd (hl _ a) (Nat.lt_irrefl _)
        · exact hi _ _ _ a b
    · rename_i hk
      rw [if_neg hk] at h2
      exact cells_inj hl hi h1 h2

theorem newEnv_comp {M : Model} {A : Around} {E : Value → Shared → Prop} {s : Shared} {scope : Scope} {globals : Addr} {closure : List (Str × Addr)} {qual : Str} {func : Option Addr} {code : Value} {around : Env} {builtins : Addr} {Q : Env → Shared → Prop}
    (h : Q (newEnv scope s.heap.objs.size globals (cellsFrom (s.heap.objs.size + 1) scope.names closure) qual func code (some around) builtins)
      { s with heap := pushCells (s.heap.push { cls := .type "dict", data := .dict #[] }) scope.names }) :
    wpAny M A (newFunctionEnv scope globals closure [] qual func code (some around) builtins) Q E s := by
  simp only [newFunctionEnv, Option.isSome_some, if_true]
  refine wpAny_bind (wpAny_alloc ?_)
  refine wpAny_bind (wpAny_layCells _ (fun n k c => rfl) scope.names closure _ _ ?_)
  rw [show ({ s with heap := s.heap.push { cls := .type "dict", data := .dict #[] } } : Shared).heap.objs.size = s.heap.objs.size + 1 from Heap.size_push ..]
  rw [List.forIn_nil]
  exact wpAny_bind (wpAny_pure (wpAny_pure h))

/-- every name of the written scope, in the scope that runs -/
theorem lookup_relS {sc : Scope} : ∀ {names : List (Str × NameKind)} {x : Str} {k : NameKind},
    (names.map fun (n, k) => if (k == NameKind.free && sc.kind == .function && sc.names.lookup n == some .cell) then (n, NameKind.cell) else (n, k)).lookup x = some k →
    ∃ k', names.lookup x = some k' ∧ (k = k' ∨ (k' = .free ∧ k = .cell))
  | [], _, _, h => by simp at h
  | (n, k₀) :: r, x, k, h => by
    have ih := @lookup_relS sc r x k
    have h' : List.lookup x ((if (k₀ == NameKind.free && sc.kind == .function && sc.names.lookup n == some .cell) = true then (n, NameKind.cell) else (n, k₀)) :: (r.map _)) = some k := h
    cases hx : x == n with
    | true =>
      simp only [List.lookup_cons, hx]
      by_cases hc : (k₀ == NameKind.free && sc.kind == .function && sc.names.lookup n == some .cell) = true
      · rw [if_pos hc] at h'
        simp only [List.lookup_cons, hx] at h'
        cases h'
        simp only [Bool.and_eq_true, beq_iff_eq] at hc
        exact ⟨k₀, rfl, .inr ⟨hc.1.1, rfl⟩⟩
      · rw [if_neg hc] at h'
        simp only [List.lookup_cons, hx] at h'
        cases h'
        exact ⟨_, rfl, .inl rfl⟩
    | false =>
      simp only [List.lookup_cons, hx]
      by_cases hc : (k₀ == NameKind.free && sc.kind == .function && sc.names.lookup n == some .cell) = true
      · rw [if_pos hc] at h'
        simp only [List.lookup_cons, hx] at h'
        exact ih h'
      · rw [if_neg hc] at h'
        simp only [List.lookup_cons, hx] at h'
        exact ih h'
/-- the names of a comprehension's block: its own (with their places in N), or captured -/
structure BlkOk (N : List Str) (sc scope : Scope) (own : List (Str × Nat)) : Prop where
  kind : scope.kind = .function
  uniq : ∀ y ∈ scope.names, scope.names.lookup y.1 = some y.2
  ix : ∀ p ∈ own, N[p.2]? = some p.1
  free : ∀ y ∈ scope.names, y.2 = .free → sc.names.lookup y.1 = some .cell ∨ sc.names.lookup y.1 = some .free
  own : ∀ y ∈ scope.names, y.2 = .local ∨ y.2 = .cell → y.1 ∈ own.map (·.1) ∨ y.1 ∉ N
/-- the slots of the block's own names forgotten -/
def wipe (σ : St) : List Nat → St
  | [] => σ
  | v :: vs => (wipe σ vs).set v none
theorem wipe_length (σ : St) : ∀ vs : List Nat, (wipe σ vs).length = σ.length
  | [] => rfl
  | v :: vs => by unfold wipe; rw [List.length_set, wipe_length σ vs]
theorem wipe_some {σ : St} {i : Nat} {x : V} : ∀ {vs : List Nat}, (wipe σ vs)[i]? = some (some x) → σ[i]? = some (some x) ∧ i ∉ vs
  | [], h => ⟨h, by simp⟩
  | v :: vs, h => by
    unfold wipe at h
    by_cases hi : v = i
    · subst hi
      by_cases hv : v < (wipe σ vs).length
      · rw [List.getElem?_set_self hv] at h; cases h
      · rw [List.getElem?_eq_none (by simpa using hv)] at h; cases h
    · rw [List.getElem?_set_ne hi] at h
      obtain ⟨h1, h2⟩ := wipe_some h
      exact ⟨h1, by simp only [List.mem_cons, not_or]; exact ⟨fun e => hi e.symm, h2⟩⟩

/-- the context of a block that starts at s, its iterator's objects at fp -/
abbrev Cx.blk (X : Cx) (s : Shared) (H : Hp) (scope : Scope) (cenv : Env) (fp : List Addr) : Cx := { X with s_0 := s, H_0 := H, env := cenv, outer := X.stack, ex := fp, fn := fun x => scope.names.lookup x == some .cell, pn := [], xe := fun _ _ => False }
section
variable {X : Cx} {pins : List (Addr × Obj)} {σ : St} {H : Hp} {s : Shared}
theorem block_start {scope : Scope} {own : List (Str × Nat)} {fp : List Addr} (I : Inv X pins σ H s) (ok : BlkOk X.N X.env.scope scope own) (hN : X.N.Nodup) (hfp : ∀ b ∈ fp, FpOk X pins H b ∧ b < s.heap.objs.size) :
    Inv (X.blk s H scope (compEnvC scope (cellsFrom (s.heap.objs.size + 1) scope.names (cloFrom X.env.cells scope.names [])) s.heap.objs.size X.env) fp) [] (wipe σ (own.map (·.2))) H { s with heap := pushCells (s.heap.push { cls := .type "dict", data := .dict #[] }) scope.names } := by
  have hfree : ∀ y ∈ scope.names, y.2 = .free → ∃ c, X.env.cells.lookup y.1 = some c := fun y hy e => by
    rcases ok.free y hy e with k | k
    · exact I.ok.has _ (.inl k)
    · exact I.ok.has _ (.inr k)
  generalize hcenv : compEnvC scope (cellsFrom (s.heap.objs.size + 1) scope.names (cloFrom X.env.cells scope.names [])) s.heap.objs.size X.env = cenv
  have kp : ∀ b o, s.heap.get? b = some o → (pushCells (s.heap.push { cls := .type "dict", data := .dict #[] }) scope.names).get? b = some o := fun b o e => pushCells_keeps _ _ _ _ (Heap.get?_push_of_some _ e)
  have hL : cenv.locals = s.heap.objs.size := by rw [← hcenv]; rfl
  have hcl : cenv.cells = cellsFrom (s.heap.objs.size + 1) scope.names (cloFrom X.env.cells scope.names []) := by rw [← hcenv]; rfl
  have hsc : cenv.scope = relS scope X.env.scope := by rw [← hcenv]; rfl
  rw [← Heap.size_push s.heap { cls := .type "dict", data := .dict #[] }] at hcl
  have cm : ∀ {y c}, (y, c) ∈ cloFrom X.env.cells scope.names [] → X.env.cells.lookup y = some c ∧ c < s.heap.objs.size := fun {y c} hm => by
    rcases cloFrom_mem hm with hm | ⟨h1, rfl⟩
    · cases hm
    · obtain ⟨c, hc⟩ := hfree _ h1 rfl
      rw [hc]
      obtain ⟨w, z⟩ := I.cell _ _ hc
      exact ⟨rfl, z.lt⟩
  have mem : ∀ {y c}, cenv.cells.lookup y = some c → (X.env.cells.lookup y = some c ∧ c < s.heap.objs.size) ∨ (s.heap.objs.size + 1 ≤ c ∧ CellAt (pushCells (s.heap.push { cls := .type "dict", data := .dict #[] }) scope.names) c none) := fun {y c} e => by
    rw [hcl] at e
    rcases cells_mem (PySem.mem_of_lookup e) with hm | ⟨_, h2, h3⟩
    · exact .inl (cm hm)
    · rw [Heap.size_push] at h2; exact .inr ⟨h2, h3⟩
  have look : ∀ {y}, scope.names.lookup y = some .free → ∃ c, cenv.cells.lookup y = some c ∧ X.env.cells.lookup y = some c := fun {y} hl => by
    have hy : (y, NameKind.free) ∈ scope.names := PySem.mem_of_lookup hl
    obtain ⟨c', e'⟩ := mem_lookup (cells_acc (names := scope.names) (n := (s.heap.push { cls := .type "dict", data := .dict #[] }).objs.size) (cloFrom_has (cells := X.env.cells) (acc := []) hy))
    rw [← hcl] at e'
    refine ⟨c', e', ?_⟩
    rw [hcl] at e'
    rcases cells_mem (PySem.mem_of_lookup e') with hm | ⟨h1, _, _⟩
    · exact (cm hm).1
    · have := ok.uniq _ h1
      rw [hl] at this; cases this
  have okB : (X.blk s H scope cenv fp).Ok := by
    refine ⟨I.ok.mod, by show cenv.scope.kind = _; rw [hsc]; exact ok.kind, by show cenv.globals = _; rw [← hcenv]; exact I.ok.glob, by show cenv.builtins = _; rw [← hcenv]; exact I.ok.blt, by show s.heap.objs.size ≤ cenv.locals; rw [hL]; exact Nat.le_refl _,
      fun y z c e1 e2 => ?_, fun y hy => ?_, fun y c z e => ?_, I.ok.hd, I.ok.frames, .inl rfl, fun b hb => ⟨?_, fun y c e z => ?_⟩, I.bs, Nat.le_trans I.ok.bsz I.sz, fun b o e hb => ?_, fun b hb z => ?_, I.stack, I.stkFree⟩
    · have e1 : cenv.cells.lookup y = some c := e1
      have e2 : cenv.cells.lookup z = some c := e2
      rw [hcl] at e1 e2
      refine cells_inj (fun p hp => ?_) (fun y z c a b => I.ok.inj y z c (cm a).1 (cm b).1) (PySem.mem_of_lookup e1) (PySem.mem_of_lookup e2)
      rw [Heap.size_push]
      exact Nat.lt_succ_of_lt (cm (y := p.1) (c := p.2) hp).2
    · show ∃ c, cenv.cells.lookup y = some c
      have key : ∀ k, cenv.kindOf y = some k → (k = .cell ∨ k = .free) → ∃ c, cenv.cells.lookup y = some c := fun k hk hk' => by
        unfold Env.kindOf at hk
        rw [hsc] at hk
        obtain ⟨k', e, r⟩ := lookup_relS hk
        have : k' = .cell ∨ k' = .free := by
          rcases r with rfl | ⟨rfl, _⟩
          · exact hk'
          · exact .inr rfl
        rcases this with rfl | rfl
        · obtain ⟨c, hm⟩ := cells_has (n := (s.heap.push { cls := .type "dict", data := .dict #[] }).objs.size) (acc := cloFrom X.env.cells scope.names []) (PySem.mem_of_lookup e)
          obtain ⟨c', e'⟩ := mem_lookup hm
          exact ⟨c', by rw [hcl]; exact e'⟩
        · obtain ⟨c, h1, _⟩ := look e
          exact ⟨c, h1⟩
      rcases hy with hy | hy
      · exact key _ hy (.inl rfl)
      · exact key _ hy (.inr rfl)
    · have z : (scope.names.lookup y == some NameKind.cell) = true := z
      have z : scope.names.lookup y = some .cell := by simpa using z
      have e : cenv.cells.lookup y = some c := e
      rw [hcl] at e
      rcases cells_mem (PySem.mem_of_lookup e) with hm | ⟨_, h2, _⟩
      · rcases cloFrom_mem hm with hm | ⟨h1, _⟩
        · cases hm
        · have q := ok.uniq _ h1
          rw [z] at q; cases q
      · rw [Heap.size_push] at h2
        exact Nat.le_of_succ_le h2
    · show b ≠ cenv.locals
      rw [hL]; exact Nat.ne_of_lt (hfp b hb).2
    · have e : cenv.cells.lookup y = some c := e
      rcases mem e with ⟨h1, _⟩ | ⟨h1, _⟩
      · exact (hfp b hb).1.2.2.2.2.1 y c h1 z
      · have h2 : s.heap.objs.size + 1 ≤ b := by rw [← z]; exact h1
        exact absurd (Nat.lt_of_lt_of_le (hfp b hb).2 (Nat.le_of_succ_le h2)) (Nat.lt_irrefl _)
    · rcases (hfp b hb).1.2.2.2.1 with z | z
      · exact I.ok.noex b o e z
      · exact absurd (Nat.lt_of_lt_of_le (Heap.lt_size e) (Nat.le_trans I.ok.bsz z)) (Nat.lt_irrefl _)
    · rcases List.mem_cons.mp (I.stkSub b z) with z | z
      · exact (hfp b hb).1.2.1 z
      · exact (hfp b hb).1.2.2.1 z
  refine ⟨okB, rfl, I.bare, Un.kept kp, ⟨fun _ => none, ?_, fun i y av e1 e2 e3 => ?_⟩, fun y c e => ?_, ?_, fun y c e => ?_, fun p hp => ?_, I.hok.kept kp, by rw [wipe_length]; exact I.len⟩
  · show Heap.Ns _ cenv.locals _
    rw [hL]
    exact Heap.Ns.keeps (Heap.Ns.new ..) fun b o e => pushCells_keeps _ _ _ _ e
  · obtain ⟨e2, hne⟩ := wipe_some e2
    have hfr : scope.names.lookup y = some .free ∧ (cenv.kindOf y = some .cell ∨ cenv.kindOf y = some .free) := by
      have key : ∀ k, cenv.scope.names.lookup y = some k → k = .local ∨ k = .cell ∨ k = .free → scope.names.lookup y = some .free ∧ (cenv.kindOf y = some .cell ∨ cenv.kindOf y = some .free) := fun k hk hk' => by
        have hk0 := hk
        rw [hsc] at hk
        obtain ⟨k', e, r⟩ := lookup_relS hk
        have no : ¬ (k' = .local ∨ k' = .cell) := fun hh => by
          rcases ok.own _ (PySem.mem_of_lookup e) hh with e' | e'
          · obtain ⟨p, hp, hpy⟩ := List.mem_map.mp e'
            have e3 := ok.ix p hp
            have : p.1 = y := hpy
            rw [this] at e3
            exact hne (List.mem_map.mpr ⟨p, hp, nodup_ix hN e3 e1⟩)
          · exact e' (List.mem_of_getElem? e1)
        rcases r with rfl | ⟨rfl, rfl⟩
        · rcases hk' with rfl | rfl | rfl
          · exact absurd (.inl rfl) no
          · exact absurd (.inr rfl) no
          · exact ⟨e, .inr hk0⟩
        · exact ⟨e, .inl hk0⟩
      have e3 : Vis cenv.scope y := e3
      rcases e3 with e3 | e3 | e3
      · exact key _ e3 (.inl rfl)
      · exact key _ e3 (.inr (.inl rfl))
      · exact key _ e3 (.inr (.inr rfl))
    obtain ⟨m, hn, hl⟩ := I.loc
    have hvis : Vis X.env.scope y := (ok.free _ (PySem.mem_of_lookup hfr.1) rfl).elim (fun k => .inr (.inl k)) (fun k => .inr (.inr k))
    obtain ⟨w, r, q⟩ := hl i y av e1 e2 hvis
    refine ⟨w, r, .inr ⟨hfr.2, ?_⟩⟩
    obtain ⟨c, h1, h2⟩ := look hfr.1
    rcases q with ⟨k, _⟩ | ⟨_, c', e', z⟩
    · have k : X.env.scope.names.lookup y = some .local := k
      rcases ok.free _ (PySem.mem_of_lookup hfr.1) rfl with k' | k' <;> rw [show X.env.scope.names.lookup y = _ from k'] at k <;> cases k
    · rw [h2] at e'; cases e'
      exact ⟨c, h1, z.keeps kp⟩
  · have e : cenv.cells.lookup y = some c := e
    rcases mem e with ⟨h1, _⟩ | ⟨_, z⟩
    · obtain ⟨w, z⟩ := I.cell y c h1
      exact ⟨w, z.keeps kp⟩
    · exact ⟨_, z⟩
  · show H cenv.locals = none
    rw [hL]; exact I.hok.fresh (Nat.le_refl _)
  · have e : cenv.cells.lookup y = some c := e
    rcases mem e with ⟨h1, _⟩ | ⟨h1, _⟩
    · exact I.freeC y c h1
    · exact I.hok.fresh (Nat.le_of_succ_le h1)
  · exact absurd (show p ∈ ([] : List (Addr × Obj)) ++ [] from hp) (by simp)

/-- an item appended to a tracked list -/
theorem app_ok {E : Value → Shared → Prop} {D : Addr} {xs : List V} {y : V} {v : Value} {Q : Value → Shared → Prop} (I : Inv X pins σ H s) (hD : H D = some (.lst xs)) (hz : xs.length < sizeLine) (r : RelV y v)
    (h : ∀ s', Inv X pins σ (upd H D (.lst (xs ++ [y]))) s' → Q .none s') : wpAny (model X.prog X.w) X.A (call (.builtin "list.append") [.ref D, v]) Q E s := by
  obtain ⟨hz', its, n, ri, e⟩ := I.hok D _ hD
  have hl := ri.length
  refine append_at (hsz := by rw [List.size_toArray]; omega) e fun h' sb ho' => ?_
  refine h { s with heap := h' } (I.write (t' := s.toks) (by rw [hD]; trivial) (.inl rfl) (fun b u hb q => (sb.2 b hb).trans q) ⟨_, ho'⟩ ⟨by rw [List.length_append]; exact hz, its ++ [v], n + 1, ri.append (.cons r .nil), ?_⟩)
  rw [ho']
  simp

/-- a clause's tests -/
def PTs (X : Cx) (ifs : List Expr) (t : TT) : Prop :=
  ∀ (pins : List (Addr × Obj)) (s : Shared) (σ : St) (H : Hp) (Q : Bool → Hp → Prop), Inv X pins σ H s → t σ H Q →
    wpAny (model X.prog X.w) X.A (forIn ifs true fun c r => if r = true then do let ok ← isTrue c X.env (eval c X.env); pure (ForInStep.yield ok) else pure (ForInStep.yield r)) (TP X pins σ Q) X.xe s
def tYes : TT := fun _ H Q => Q true H
theorem pts_nil : PTs X [] tYes := fun _ _ _ H _ I h => wpAny_tests_nil ⟨H, I, h⟩
theorem pts_one {c : Expr} {t : TT} (h : PT X c t) : PTs X [c] t := fun pins s σ H Q I hw => wpAny_tests_one (h pins s σ H Q I hw)
end

theorem thnF {α : Type} {t : Sem α} {Q Q' : α → Shared → Prop} {M : Model} {A : Around} {E : Value → Shared → Prop} {s : Shared} (h : wpAny M A t Q (fun _ _ => False) s) (hQ : ∀ a s, Q a s → Q' a s) : wpAny M A t Q' E s := wpAny_mono h hQ fun _ _ z => False.elim z

/-- the loop of a list comprehension's block, the target of any form (codeAny_compLoop_tests asks a target that no tuple goes to; statement and proof follow it, PyProof/CompMap.lean:41-61, with the step letOwnedTupleGo kept) -/
theorem compLoop_any {prog : Program} {w : World} {A : Around} {R : Result → Shared → Prop} {s : Shared} {elt target iter : Expr} {ifs : List Expr} {scope : Scope} {pos : Pos} {it acc : Value} {env : Env} (I : Nat → Shared → Prop)
    (turn : ∀ n s, I n s → wpAny (model prog w) A (pyNext it) (fun r s₁ => match r with
      | none => R (.ok .next) s₁
      | some v => wpAny (model prog w) A (letOwnedTupleGo target it v) (fun _ s₁' => wpAny (model prog w) A (assign target env v) (fun _ s₂ =>
          wpAny (model prog w) A (forIn ifs true fun c r => if r = true then do let ok ← isTrue c env (eval c env); pure (ForInStep.yield ok) else pure (ForInStep.yield r)) (fun ok s₃ =>
            if ok = true then wpAny (model prog w) A (eval elt env) (fun x s₄ =>
              wpAny (model prog w) A (call (.builtin "list.append") [acc, x]) (fun _ s₅ => ∃ m, m < n ∧ I m s₅) (notedBy (model prog w) A env fun e s' => R (.error e) s') s₄) (notedBy (model prog w) A env fun e s' => R (.error e) s') s₃
            else ∃ m, m < n ∧ I m s₃) (notedBy (model prog w) A env fun e s' => R (.error e) s') s₂) (notedBy (model prog w) A env fun e s' => R (.error e) s') s₁') (notedBy (model prog w) A env fun e s' => R (.error e) s') s₁) (notedBy (model prog w) A env fun e s' => R (.error e) s') s)
    (n : Nat) (h : I n s) :
    codeAny (model prog w) A (.compLoop (.ListComp elt [⟨target, iter, ifs, 0⟩] scope pos) 0 it acc env) R s := by
  refine codeAny_loop rfl I (fun n s hI => ?_) n h
  show wpAny _ A ((compTurn (.ListComp elt [⟨target, iter, ifs, 0⟩] scope pos) 0 it acc env).onRaise (fun x => do noteFrame x env; theTreesLotGoes x)) _ _ s
  refine wpAny_noted ?_
  rw [compTurn_list]
  refine wpAny_bind (wpAny_standAt (wpAny_bind (wpAny_mono (turn n s hI) (fun r s₁ h₁ => ?_) fun _ _ h' => h')))
  cases r with
  | none => exact wpAny_pure h₁
  | some v =>
    refine wpAny_bind (wpAny_mono h₁ (fun _ s₁' h₁' => ?_) fun _ _ h' => h')
    refine wpAny_bind (wpAny_mono h₁' (fun _ s₂ h₂ => wpAny_bind (wpAny_mono h₂ (fun ok s₃ h₃ => ?_) fun _ _ h' => h')) fun _ _ h' => h')
    cases ok with
    | false => exact wpAny_pure ⟨rfl, h₃⟩
    | true =>
      exact wpAny_bind (wpAny_bind (wpAny_mono h₃ (fun x s₄ h₄ => wpAny_bind (wpAny_mono h₄ (fun _ s₅ h₅ => wpAny_pure (wpAny_pure ⟨rfl, h₅⟩)) fun _ _ h' => h')) fun _ _ h' => h'))

section
variable {X : Cx}
/-- [elt for target in iter if ..]: D the new list; W by the turn and a measure, Nx what a turn is to reach -/
def tLc (wi : TI) (g : TG) (tt : TT) (te : TE) (vs : List Nat) : TE := fun σ H Q => wi σ H fun J H1 => ∀ D, H1 D = none → ∃ W : Nat → Nat → Hp → Prop, (∃ m, W 0 m (upd H1 D (.lst []))) ∧ ∀ i m H, W i m H →
  (J.stop i H ∧ Q (.ref D) H) ∨ (J.go i H ∧ ∃ Nx : Hp → Prop, (∀ H', Nx H' → ∃ m', m' < m ∧ W (i + 1) m' H') ∧ ∀ x H', J.yld i H x H' → g x (wipe σ vs) H' fun σ2 H2 => wipe σ2 vs = wipe σ vs ∧ tt σ2 H2 fun b H3 =>
    if b = true then te σ2 H3 fun y H4 => ∃ acc, H4 D = some (.lst acc) ∧ acc.length < sizeLine ∧ Nx (upd H4 D (.lst (acc ++ [y]))) else Nx H3)
theorem lc_core {pins : List (Addr × Obj)} {s : Shared} {σ : St} {H : Hp} {Q : VK} {elt tg iter : Expr} {ifs : List Expr} {scope : Scope} {own : List (Str × Nat)} {pos pos' : Pos} {wi : TI} {g : TG} {tt : TT} {te : TE} {use : Option (Value → Sem Unit)} {Qf : Value → Shared → Prop}
    (hc : X.calm = true) (hN : X.N.Nodup) (I : Inv X pins σ H s) (hi : PI X tg iter wi) (ok : BlkOk X.N X.env.scope scope own)
    (hg : ∀ (s : Shared) (H : Hp) (C : Addr) (cl : List (Str × Addr)) (fp : List Addr), PG (X.blk s H scope (compEnvC scope cl C X.env) fp) tg g) (ht : ∀ (s : Shared) (H : Hp) (C : Addr) (cl : List (Str × Addr)) (fp : List Addr), PTs (X.blk s H scope (compEnvC scope cl C X.env) fp) ifs tt)
    (he : ∀ (s : Shared) (H : Hp) (C : Addr) (cl : List (Str × Addr)) (fp : List Addr), PE (X.blk s H scope (compEnvC scope cl C X.env) fp) elt te) (hs : ∀ x, foldedSetIterable iter X.env x = pure x)
    (h : tLc wi g tt te (own.map (·.2)) σ H Q)
    (hRR : ∀ D C s' m H', Inv X pins σ H' s' → Q (.ref D) H' → s'.heap.Ns C m → FpOk X pins H' C → compPost (model X.prog X.w) X.A X.xe use Qf (.ref D) C (.ok .next) s') :
    wpAny (model X.prog X.w) X.A (comprehension (.ListComp elt [⟨tg, iter, ifs, 0⟩] scope pos) scope X.env pos' (newList []) false (eval iter X.env) use) Qf X.xe s := by
  have hfree : ∀ y ∈ scope.names, y.2 = .free → ∃ c, X.env.cells.lookup y.1 = some c := fun y hy e => by
    rcases ok.free y hy e with k | k
    · exact I.ok.has _ (.inl k)
    · exact I.ok.has _ (.inr k)
  refine wpAny_comprehension_free (use := use) rfl hs (closure_ok hfree) ok.kind (fun y hy e => by rw [ok.uniq y hy, e])
    (thn (hi pins s σ H _ I h) fun xv s1 hx => thn hx fun itv s2 h2 => ?_)
  obtain ⟨it, fp, tn, J, H2, e, I2, T, st2, f2, q⟩ := h2
  subst e
  refine wpAny_newObj_type (newEnv_comp ?_) (by show 0 ≤ sizeLine; decide)
  generalize hD : s2.heap.objs.size = D
  have hDn : H2 D = none := I2.hok.fresh (Nat.le_of_eq hD)
  obtain ⟨W, ⟨m0, w0⟩, turn⟩ := q D hDn
  -- the new list
  generalize hs3 : ({ s2 with heap := s2.heap.push { cls := .type "list", data := .seq ([] : List Value).toArray } } : Shared) = s3
  have I3 : Inv X pins σ (upd H2 D (.lst [])) s3 := by
    rw [← hs3]
    refine I2.laid (t' := s2.toks) (fun b o e => Heap.get?_push_of_some _ e) (Nat.le_of_eq hD) ⟨Nat.zero_le _, [], 0, .nil, ?_⟩
    rw [← hD]
    exact Heap.get?_push_size _ rfl
  have h3 : s3.heap = s2.heap.push { cls := .type "list", data := .seq ([] : List Value).toArray } := by rw [← hs3]
  have sz : ∀ b ∈ fp, b < s2.heap.objs.size := fun b hb => by
    obtain ⟨o, e, _⟩ := T.obj _ _ st2 b hb
    exact Heap.lt_size e
  have f3 : ∀ b ∈ fp, FpOk X pins (upd H2 D (.lst [])) b ∧ b < s3.heap.objs.size := fun b hb => by
    have hlt := sz b hb
    refine ⟨⟨?_, (f2 b hb).2⟩, by rw [h3, Heap.size_push]; exact Nat.lt_succ_of_lt hlt⟩
    rw [upd_ne (by rw [← hD]; exact Nat.ne_of_lt hlt)]
    exact (f2 b hb).1
  have st3 : tn 0 s3.heap := T.keep _ _ _ st2 fun b _ o e => by rw [h3]; exact Heap.get?_push_of_some _ e
  have I4 := block_start I3 ok hN f3
  have pg := hg s3 (upd H2 D (.lst [])) s3.heap.objs.size (cellsFrom (s3.heap.objs.size + 1) scope.names (cloFrom X.env.cells scope.names [])) fp
  have pt := ht s3 (upd H2 D (.lst [])) s3.heap.objs.size (cellsFrom (s3.heap.objs.size + 1) scope.names (cloFrom X.env.cells scope.names [])) fp
  have pe := he s3 (upd H2 D (.lst [])) s3.heap.objs.size (cellsFrom (s3.heap.objs.size + 1) scope.names (cloFrom X.env.cells scope.names [])) fp
  show codeAny _ _ (.compStart (.ListComp elt [⟨tg, iter, ifs, 0⟩] scope pos) 0 (.ref it) (.ref D) (compEnvC scope (cellsFrom (s3.heap.objs.size + 1) scope.names (cloFrom X.env.cells scope.names [])) s3.heap.objs.size X.env)) (compPost (model X.prog X.w) X.A X.xe use Qf (.ref D) s3.heap.objs.size) { s3 with heap := pushCells (s3.heap.push { cls := .type "dict", data := .dict #[] }) scope.names }
  have nfp : ∀ b ∈ fp, (upd H2 D (.lst [])) b = none := fun b hb => (f3 b hb).1.1
  generalize hce : compEnvC scope (cellsFrom (s3.heap.objs.size + 1) scope.names (cloFrom X.env.cells scope.names [])) s3.heap.objs.size X.env = ce at I4 pg pt pe ⊢
  have cL : ce.locals = s3.heap.objs.size := by subst hce; rfl
  generalize hH3 : upd H2 D (.lst []) = H3 at I3 I4 pg pt pe w0 nfp f3
  generalize hs4 : ({ s3 with heap := pushCells (s3.heap.push { cls := .type "dict", data := .dict #[] }) scope.names } : Shared) = s4 at I4 ⊢
  have st4 : tn 0 s4.heap := T.keep _ _ _ st3 fun b _ o e => by rw [← hs4]; exact pushCells_keeps _ _ _ _ (Heap.get?_push_of_some _ e)
  have stat : ∀ {σ' : St} {H' : Hp} {s' : Shared}, Inv (X.blk s3 H3 scope ce fp) [] σ' H' s' → (∀ b ∈ fp, H' b = none) → ∀ b ∈ fp, FpOk (X.blk s3 H3 scope ce fp) [] H' b := fun {σ' H' s'} I' hn b hb =>
    ⟨hn b hb, (I'.ok.exf b hb).1, I'.ok.exfs b hb, .inl hb, fun x c e => (I'.ok.exf b hb).2 x c e, fun p hp => absurd (show p ∈ ([] : List (Addr × Obj)) ++ [] from hp) (by simp)⟩
  have loop : codeAny (model X.prog X.w) X.A (.compLoop (.ListComp elt [⟨tg, iter, ifs, 0⟩] scope pos) 0 (.ref it) (.ref D) ce) (compPost (model X.prog X.w) X.A X.xe use Qf (.ref D) s3.heap.objs.size) s4 := by
    refine compLoop_any (fun n s' => ∃ i H', Inv (X.blk s3 H3 scope ce fp) [] (wipe σ (own.map (·.2))) H' s' ∧ tn i s'.heap ∧ (∀ b ∈ fp, H' b = none) ∧ W i n H') ?_ m0 ⟨0, H3, I4, st4, nfp, w0⟩
    rintro n s5 ⟨i, H5, I5, st5, n5, w5⟩
    rcases turn i n H5 w5 with ⟨stop, qq⟩ | ⟨go, Nx, hNx, step⟩
    · have td := T.done (X.blk s3 H3 scope ce fp) rfl rfl rfl hc i [] s5 _ H5 (fun _ _ => False) I5 (stat I5 n5) st5 stop
      refine thnF td fun r s6 ⟨hr, I6⟩ => ?_
      subst hr
      -- back in the def's context
      have I7 : Inv X pins σ H5 s6 := I3.call' (ch := fp) I6.os I6.base I6.hok I6.bare fun b hb => ⟨(f3 b hb).1.2.2.2.1, (f3 b hb).1.2.1, (f3 b hb).1.2.2.2.2.1, (f3 b hb).1.2.2.2.2.2⟩
      have nC : H5 s3.heap.objs.size = none := by
        have z : H5 ce.locals = none := I6.free
        rw [cL] at z
        exact z
      obtain ⟨m, hn, _⟩ := I6.loc
      have hn : s6.heap.Ns ce.locals m := hn
      rw [cL] at hn
      exact hRR D s3.heap.objs.size s6 m H5 I7 qq hn (I3.fpOk (Nat.le_refl _) nC)
    · have ti := T.item (X.blk s3 H3 scope ce fp) rfl rfl rfl hc i [] s5 _ H5 (fun _ _ => False) I5 (stat I5 n5) st5 go
      refine thnF ti fun r s6 ⟨u, hr, h6⟩ => ?_
      subst hr
      refine thnF h6 fun _ s7 ⟨x, H7, I7, r7, y7, st7, n7⟩ => ?_
      have I7' := I7.pinned (stat I7 n7) (T.obj _ _ st7)
      refine thnF (pg _ s7 _ H7 x u _ I7' r7 (step x H7 y7)) fun _ s8 ⟨σ8, H8, I8, hw8, q8⟩ => ?_
      refine thnF (pt _ s8 σ8 H8 _ I8 q8) fun b s9 ⟨H9, I9, q9⟩ => ?_
      -- the turn's end
      have fin : ∀ {s' : Shared} {H' : Hp}, Inv (X.blk s3 H3 scope ce fp) ([] ++ pinsAt fp s7.heap) σ8 H' s' → Nx H' → ∃ m, m < n ∧ ∃ i H', Inv (X.blk s3 H3 scope ce fp) [] (wipe σ (own.map (·.2))) H' s' ∧ tn i s'.heap ∧ (∀ b ∈ fp, H' b = none) ∧ W i m H' := fun {s' H'} I' nx => by
        obtain ⟨m', hm, w'⟩ := hNx H' nx
        have pin' : ∀ b ∈ fp, ∀ o, s7.heap.get? b = some o → s'.heap.get? b = some o ∧ H' b = none := fun b hb o e =>
          let z := I'.pin (b, o) (List.mem_append_right _ (List.mem_append_right _ (mem_pinsAt hb e)))
          ⟨z.1, z.2.1⟩
        have hl : (wipe σ (own.map (·.2))).length = σ8.length := by rw [← hw8, wipe_length]
        refine ⟨m', hm, i + 1, H', (I'.unpinned (pins := [])).weak hl (fun j v e => ?_), T.keep _ _ _ st7 fun b hb o e => (pin' b hb o e).1, fun b hb => ?_, w'⟩
        · rw [← hw8] at e
          exact (wipe_some e).1
        · obtain ⟨o, e, _⟩ := T.obj _ _ st7 b hb
          exact (pin' b hb o e).2
      cases b with
      | false =>
        simp only [Bool.false_eq_true, if_false] at q9 ⊢
        exact fin I9 q9
      | true =>
        simp only [if_true] at q9 ⊢
        refine thnF (pe _ s9 σ8 H9 _ I9 q9) fun z s10 ⟨yv, H10, I10, r10, acc, hD10, hz10, nx⟩ => ?_
        exact app_ok (X := X.blk s3 H3 scope ce fp) I10 hD10 hz10 r10 fun s11 I11 => fin I11 nx
  exact codeAny_compStart_list loop (T.self X.A 0 _ _ _ st4 loop)
/-- as a value -/
theorem pe_lc {elt tg iter : Expr} {ifs : List Expr} {scope : Scope} {own : List (Str × Nat)} {pos : Pos} {wi : TI} {g : TG} {tt : TT} {te : TE} (hc : X.calm = true) (hN : X.N.Nodup) (hi : PI X tg iter wi) (ok : BlkOk X.N X.env.scope scope own)
    (hg : ∀ (s : Shared) (H : Hp) (C : Addr) (cl : List (Str × Addr)) (fp : List Addr), PG (X.blk s H scope (compEnvC scope cl C X.env) fp) tg g) (ht : ∀ (s : Shared) (H : Hp) (C : Addr) (cl : List (Str × Addr)) (fp : List Addr), PTs (X.blk s H scope (compEnvC scope cl C X.env) fp) ifs tt)
    (he : ∀ (s : Shared) (H : Hp) (C : Addr) (cl : List (Str × Addr)) (fp : List Addr), PE (X.blk s H scope (compEnvC scope cl C X.env) fp) elt te) (hs : ∀ x, foldedSetIterable iter X.env x = pure x := by intro _; rfl) :
    PE X (.ListComp elt [⟨tg, iter, ifs, 0⟩] scope pos) (tLc wi g tt te (own.map (·.2))) := by
  intro pins s σ H Q I h
  rw [eval_ListComp]
  refine lc_core hc hN I hi ok hg ht he hs h fun D C s' m H' I' q hn f => ⟨m, hn, fun h'' sb => ?_⟩
  obtain ⟨f0, f1, f2, f3, f4, f5⟩ := f
  exact ⟨.ref D, H', I'.turned (t' := s'.toks) (fun b o hb e => (sb.2 b hb).trans e) f0 f1 f3 f4 f5, rfl, q⟩
end

/-! ### the forms one uses -/
def blkC (N : List Str) (sc scope : Scope) (own : List (Str × Nat)) : Bool :=
  (match scope.kind with | .function => true | _ => false) && (scope.names.all fun y => decide (scope.names.lookup y.1 = some y.2)) && (own.all fun p => decide (N[p.2]? = some p.1)) &&
    (scope.names.all fun y => match y.2 with
      | .free => (match sc.names.lookup y.1 with | some .cell => true | some .free => true | _ => false)
      | .local => decide (y.1 ∈ own.map (·.1)) || decide (y.1 ∉ N)
      | .cell => decide (y.1 ∈ own.map (·.1)) || decide (y.1 ∉ N)
      | _ => true)
theorem blkOk_by {N : List Str} {sc scope : Scope} {own : List (Str × Nat)} (h : blkC N sc scope own = true) : BlkOk N sc scope own := by
  unfold blkC at h
  simp only [Bool.and_eq_true, List.all_eq_true, decide_eq_true_eq] at h
  obtain ⟨⟨⟨h1, h2⟩, h3⟩, h4⟩ := h
  refine ⟨?_, h2, h3, fun y hy e => ?_, fun y hy e => ?_⟩
  · split at h1
    · assumption
    · cases h1
  · have q := h4 y hy
    simp only [e] at q
    split at q <;> first | exact .inl (by assumption) | exact .inr (by assumption) | cases q
  · have q := h4 y hy
    rcases e with e | e <;> (simp only [e, Bool.or_eq_true, decide_eq_true_eq] at q; exact q)
end L2

namespace L2
open PySem PySem.Spec PyProof.Rows

section
variable {prog : Program} {w : World} {A : Around} {R : Result → Shared → Prop} {s : Shared} {elt t0 i0 t1 i1 : Expr} {ifs0 ifs1 : List Expr} {scope : Scope} {pos : Pos} {it acc : Value} {env : Env}
end

section
variable {X : Cx}
end
end L2

namespace L2
open PySem PySem.Spec PyProof.Rows

/-! ### lists of pairs as tables -/
section
variable {κ : Type} [DecidableEq κ]
def valV (kvs : List (κ × V)) (k : κ) : Option V := (kvs.find? fun kv => decide (kv.1 = k)).map (·.2)
/-- in its place, or at the end -/
def putK (kvs : List (κ × V)) (k : κ) (v : V) : List (κ × V) :=
  if (kvs.any fun kv => decide (kv.1 = k)) = true then kvs.map (fun kv => if kv.1 = k then (kv.1, v) else kv) else kvs ++ [(k, v)]
def dropK (kvs : List (κ × V)) (k : κ) : List (κ × V) := kvs.filter fun kv => decide (kv.1 ≠ k)

theorem valV_pos {p : κ × V} {r : List (κ × V)} {k : κ} (e : p.1 = k) : valV (p :: r) k = some p.2 := by simp [valV, List.find?_cons, e]
theorem valV_neg {p : κ × V} {r : List (κ × V)} {k : κ} (e : ¬ p.1 = k) : valV (p :: r) k = valV r k := by simp [valV, List.find?_cons, e]
theorem valV_any (k : κ) : ∀ kvs : List (κ × V), (kvs.any fun kv => decide (kv.1 = k)) = (valV kvs k).isSome
  | [] => rfl
  | p :: r => by
    rw [List.any_cons]
    by_cases e : p.1 = k
    · simp only [valV_pos e, decide_eq_true e, Bool.true_or, Option.isSome_some]
    · rw [valV_neg e, decide_eq_false e, Bool.false_or]; exact valV_any k r
theorem length_putK (kvs : List (κ × V)) (k : κ) (v : V) : (putK kvs k v).length ≤ kvs.length + 1 := by
  unfold putK
  split
  · rw [List.length_map]; omega
  · rw [List.length_append, List.length_cons, List.length_nil]; omega
theorem RelO.isSome_eq {o : Option V} {u : Option Value} (r : RelO o u) : o.isSome = u.isSome := by
  cases o with
  | none => cases u with
    | none => rfl
    | some _ => exact (show False from r).elim
  | some _ => cases u with
    | none => exact (show False from r).elim
    | some _ => rfl
theorem RelO.getD {o : Option V} {u : Option Value} {d : V} {d' : Value} (r : RelO o u) (rd : RelV d d') : RelV (o.getD d) (u.getD d') := by
  cases o with
  | none => cases u with
    | none => exact rd
    | some _ => exact (show False from r).elim
  | some _ => cases u with
    | none => exact (show False from r).elim
    | some _ => exact r

/-- raw tables of the same keys -/
theorem KV.val {kvs : List (κ × V)} {vs : List (κ × Value)} (r : KV kvs vs) (k : κ) : RelO (valV kvs k) (valueAt vs k) := by
  unfold KV at r
  induction r with
  | nil => exact True.intro
  | @cons p q ps qs h t ih =>
    obtain ⟨h1, h2⟩ := h
    by_cases e : p.1 = k
    · have e' : q.1 = k := h1.symm.trans e
      have b : valueAt (q :: qs) k = some q.2 := by simp [valueAt, List.find?_cons, e']
      rw [valV_pos e, b]; exact h2
    · have e' : ¬ q.1 = k := fun z => e (h1.trans z)
      have b : valueAt (q :: qs) k = valueAt qs k := by simp [valueAt, List.find?_cons, e']
      rw [valV_neg e, b]; exact ih
theorem KV.any {kvs : List (κ × V)} {vs : List (κ × Value)} (r : KV kvs vs) (k : κ) : (kvs.any fun kv => decide (kv.1 = k)) = vs.any fun kv => decide (kv.1 = k) := by
  unfold KV at r
  induction r with
  | nil => rfl
  | cons h t ih => rw [List.any_cons, List.any_cons, ih, h.1]
theorem KV.repl {kvs : List (κ × V)} {vs : List (κ × Value)} (r : KV kvs vs) (k : κ) {y : V} {u : Value} (ry : RelV y u) :
    KV (kvs.map fun kv => if kv.1 = k then (kv.1, y) else kv) (vs.map fun kv => if kv.1 = k then (kv.1, u) else kv) := by
  unfold KV at r ⊢
  induction r with
  | nil => exact .nil
  | @cons p q ps qs h t ih =>
    rw [List.map_cons, List.map_cons]
    refine .cons ?_ ih
    obtain ⟨h1, h2⟩ := h
    by_cases e : p.1 = k
    · rw [if_pos e, if_pos (h1.symm.trans e)]; exact ⟨h1, ry⟩
    · rw [if_neg e, if_neg (fun z => e (h1.trans z))]; exact ⟨h1, h2⟩
theorem KV.put {kvs : List (κ × V)} {vs : List (κ × Value)} (r : KV kvs vs) (k : κ) {y : V} {u : Value} (ry : RelV y u) : KV (putK kvs k y) (stored vs k u) := by
  unfold putK stored
  rw [r.any k]
  by_cases e : (vs.any fun kv => decide (kv.1 = k)) = true
  · rw [if_pos e, if_pos e]; exact r.repl k ry
  · rw [if_neg e, if_neg e]; exact Paired.snoc r ⟨rfl, ry⟩
theorem KV.drop {kvs : List (κ × V)} {vs : List (κ × Value)} (r : KV kvs vs) (k : κ) : KV (dropK kvs k) (without vs k) := by
  unfold KV at r ⊢
  unfold dropK without
  induction r with
  | nil => exact .nil
  | @cons p q ps qs h t ih =>
    obtain ⟨h1, h2⟩ := h
    rw [List.filter_cons, List.filter_cons]
    by_cases e : p.1 = k
    · have a : ¬ decide (p.1 ≠ k) = true := by simp [e]
      have b : ¬ decide (q.1 ≠ k) = true := by simp [h1.symm.trans e]
      rw [if_neg a, if_neg b]; exact ih
    · have e' : ¬ q.1 = k := fun z => e (h1.trans z)
      have a : decide (p.1 ≠ k) = true := by simp [e]
      have b : decide (q.1 ≠ k) = true := by simp [e']
      rw [if_pos a, if_pos b]; exact .cons ⟨h1, h2⟩ ih
theorem KV.keys {kvs : List (κ × V)} {vs : List (κ × Value)} (r : KV kvs vs) : kvs.map (·.1) = vs.map (·.1) := by
  unfold KV at r
  induction r with
  | nil => rfl
  | cons h t ih => rw [List.map_cons, List.map_cons, ih, h.1]
theorem KV.length {kvs : List (κ × V)} {vs : List (κ × Value)} (r : KV kvs vs) : kvs.length = vs.length := Paired.length r
end


/-! ### a tracked dict, its keys ints and texts or tuples of these -/
theorem kV_is {P : Program} {w : World} {k : Key} {u : Value} (r : RelV (kV k) u) : (mixKind P w).is k u = true := by
  cases k with
  | inl i => obtain ⟨t, e⟩ := (show ∃ t, u = Value.int i t from r); subst e; exact mixKind_int P w i t
  | inr x => obtain ⟨t, e⟩ := (show ∃ t, u = Value.str x t from r); subst e; exact mixKind_str P w x t
theorem items_are {P : Program} {w : World} : ∀ {ks : List Key} {us : List Value}, Vals (ks.map kV) us → ItemsAre (mixKind P w) ks us
  | [], _, r => by rw [List.map_nil] at r; cases r; exact .nil
  | k :: ks, _, r => by
    rw [List.map_cons] at r
    cases r with
    | cons h t => exact .cons (kV_is h) (items_are t)

/-- raw entries of a dict with tuple keys -/
abbrev KT (H : Hp) : List (List Key × V) → List (List Key × Addr × Value) → Prop := Paired fun p q => p.1 = q.1 ∧ H q.2.1 = some (.tup (p.1.map kV)) ∧ RelV p.2 q.2.2
theorem KT.val {H : Hp} {kvs : List (List Key × V)} {xs : List (List Key × Addr × Value)} (r : KT H kvs xs) (k : List Key) : RelO (valV kvs k) ((atKey xs k).map (·.2)) := by
  induction r with
  | nil => exact True.intro
  | @cons p q ps qs h t ih =>
    obtain ⟨h1, _, h2⟩ := h
    by_cases e : p.1 = k
    · have e' : q.1 = k := h1.symm.trans e
      have b : atKey (q :: qs) k = some q.2 := by simp [atKey, List.find?_cons, e']
      rw [valV_pos e, b]; exact h2
    · have e' : ¬ q.1 = k := fun z => e (h1.trans z)
      have b : atKey (q :: qs) k = atKey qs k := by simp [atKey, List.find?_cons, e']
      rw [valV_neg e, b]; exact ih
theorem KT.repl {H : Hp} {kvs : List (List Key × V)} {xs : List (List Key × Addr × Value)} (r : KT H kvs xs) (k : List Key) {y : V} {u : Value} (ry : RelV y u) :
    KT H (kvs.map fun kv => if kv.1 = k then (kv.1, y) else kv) (xs.map (putAt k u)) := by
  induction r with
  | nil => exact .nil
  | @cons p q ps qs h t ih =>
    rw [List.map_cons, List.map_cons]
    refine .cons ?_ ih
    obtain ⟨h1, h2, h3⟩ := h
    unfold putAt
    by_cases e : p.1 = k
    · rw [if_pos e, if_pos (h1.symm.trans e)]; exact ⟨h1, h2, ry⟩
    · rw [if_neg e, if_neg (fun z => e (h1.trans z))]; exact ⟨h1, h2, h3⟩
theorem KT.put {H : Hp} {kvs : List (List Key × V)} {xs : List (List Key × Addr × Value)} (r : KT H kvs xs) (k : List Key) {b : Addr} {y : V} {u : Value} (hb : H b = some (.tup (k.map kV))) (ry : RelV y u) :
    KT H (putK kvs k y) (storedH xs k b u) := by
  have e : (kvs.any fun kv => decide (kv.1 = k)) = (atKey xs k).isSome := by
    rw [valV_any, (r.val k).isSome_eq, Option.isSome_map]
  unfold putK storedH
  rw [e]
  by_cases q : (atKey xs k).isSome = true
  · rw [if_pos q, if_pos q]; exact r.repl k ry
  · rw [if_neg q, if_neg q]; exact Paired.snoc r ⟨rfl, hb, ry⟩
theorem KT.keeps {H H' : Hp} {kvs : List (List Key × V)} {xs : List (List Key × Addr × Value)} (r : KT H kvs xs) (ht : ∀ b ys, H b = some (.tup ys) → H' b = some (.tup ys)) : KT H' kvs xs :=
  Paired.mapP r fun _ _ z => ⟨z.1, ht _ _ z.2.1, z.2.2⟩

section
variable {P : Program} {w : World} {H : Hp} {h : Heap} {a : Addr}
theorem rd_of {u : HO} (ok : HOk P w H h) (e : Rd H a u) : ObjOk P w H h a u := e.ok ok
theorem dk_rd {kvs : List (Key × V)} (ok : HOk P w H h) (e : Rd H a (.dK kvs)) : kvs.length ≤ sizeLine ∧ (a == sysModules) = false ∧ ∃ vs, KV kvs vs ∧ h.DictOf (mixKind P w) a vs :=
  show ObjOk P w H h a (.dK kvs) from rd_of ok e
theorem dk_of {kvs : List (Key × V)} (ok : HOk P w H h) (e : H a = some (.dK kvs)) : kvs.length ≤ sizeLine ∧ (a == sysModules) = false ∧ ∃ vs, KV kvs vs ∧ h.DictOf (mixKind P w) a vs := dk_rd ok (.inl e)
/-- a tracked tuple of ints and texts is a key -/
theorem key_of {ks : List Key} (ok : HOk P w H h) (e : H a = some (.tup (ks.map kV))) : (tupleKind (mixKind P w)).is h ks a := by
  obtain ⟨_, its, r, ⟨o, h1, h2, n, h3⟩, _⟩ := (show ObjOk P w H h a (.tup (ks.map kV)) from ok a _ e)
  exact ⟨o, its.toArray, n, h1, h2, h3, by simpa using items_are r⟩
theorem dt_rd {kvs : List (List Key × V)} (ok : HOk P w H h) (e : Rd H a (.dT kvs)) : kvs.length ≤ sizeLine ∧ (a == sysModules) = false ∧
    ∃ xs, KT H kvs xs ∧ h.DictOfH (tupleKind (mixKind P w)) a xs := by
  obtain ⟨z, y, xs, r, o, es, ep, h1, h2, h3, h4, h5⟩ := (show ObjOk P w H h a (.dT kvs) from rd_of ok e)
  refine ⟨z, y, xs, r, o, es, ep, h1, h2, h3, h4, fun x hx => ?_, h5⟩
  have all : ∀ {l : List (List Key × V)} {m : List (List Key × Addr × Value)}, KT H l m → ∀ x ∈ m, (tupleKind (mixKind P w)).is h x.1 x.2.1 := by
    intro l m q
    induction q with
    | nil => intro x hx; exact nomatch hx
    | @cons p q ps qs hq t ih =>
      intro x hx
      rcases List.mem_cons.mp hx with e | hx
      · subst e
        exact key_of ok (by rw [← hq.1]; exact hq.2.1)
      · exact ih x hx
  exact all r x hx
theorem dt_of {kvs : List (List Key × V)} (ok : HOk P w H h) (e : H a = some (.dT kvs)) : kvs.length ≤ sizeLine ∧ (a == sysModules) = false ∧
    ∃ xs, KT H kvs xs ∧ h.DictOfH (tupleKind (mixKind P w)) a xs := dt_rd ok (.inl e)
end

/-- what the dict at a holds at the key y -/
def DGet (H : Hp) (a : Addr) (y : V) (r : Option V) : Prop :=
  (∃ kvs k, Rd H a (.dK kvs) ∧ y = kV k ∧ r = valV kvs k) ∨ ∃ kvs k b, Rd H a (.dT kvs) ∧ y = .ref b ∧ H b = some (.tup (k.map kV)) ∧ r = valV kvs k
/-- the heap behind a[y] = v -/
def DPut (H : Hp) (a : Addr) (y v : V) (H' : Hp) : Prop :=
  (∃ kvs k, H a = some (.dK kvs) ∧ y = kV k ∧ kvs.length < sizeLine ∧ H' = upd H a (.dK (putK kvs k v))) ∨
  ∃ kvs k b, H a = some (.dT kvs) ∧ y = .ref b ∧ H b = some (.tup (k.map kV)) ∧ kvs.length < sizeLine ∧ H' = upd H a (.dT (putK kvs k v))
theorem DGet.k {H : Hp} {a : Addr} {kvs : List (Key × V)} {k : Key} (e : H a = some (.dK kvs)) : DGet H a (kV k) (valV kvs k) := .inl ⟨kvs, k, .inl e, rfl, rfl⟩
theorem DGet.t {H : Hp} {a b : Addr} {kvs : List (List Key × V)} {k : List Key} (e : H a = some (.dT kvs)) (eb : H b = some (.tup (k.map kV))) : DGet H a (.ref b) (valV kvs k) := .inr ⟨kvs, k, b, .inl e, rfl, eb, rfl⟩
theorem DPut.k {H : Hp} {a : Addr} {kvs : List (Key × V)} {k : Key} {v : V} (e : H a = some (.dK kvs)) (hl : kvs.length < sizeLine) : DPut H a (kV k) v (upd H a (.dK (putK kvs k v))) := .inl ⟨kvs, k, e, rfl, hl, rfl⟩
theorem DPut.t {H : Hp} {a b : Addr} {kvs : List (List Key × V)} {k : List Key} {v : V} (e : H a = some (.dT kvs)) (eb : H b = some (.tup (k.map kV))) (hl : kvs.length < sizeLine) :
    DPut H a (.ref b) v (upd H a (.dT (putK kvs k v))) := .inr ⟨kvs, k, b, e, rfl, eb, hl, rfl⟩


section
variable {X : Cx} {pins : List (Addr × Obj)} {σ : St} {H : Hp} {s : Shared} {a : Addr} {y v : V} {u r : Value} {o : Option V} {A : Around} {E : Value → Shared → Prop}

theorem Inv.big (I : Inv X pins σ H s) : sysModules < s.heap.objs.size := by
  have h : mainGlobals < s.heap.objs.size := (I.mod.glob.keeps I.bk).lt
  exact Nat.lt_trans (by decide) h

/-- d[y], there -/
theorem d_getItem {Q : Value → Shared → Prop} (hu : A.units + 1 < cLine) (I : Inv X pins σ H s) (g : DGet H a y (some v)) (ry : RelV y u) (h : ∀ w' s', Inv X pins σ H s' → RelV v w' → Q w' s') :
    wpAny (model X.prog X.w) A (getItem (.ref a) u) Q E s := by
  rcases g with ⟨kvs, k, e, ey, l⟩ | ⟨kvs, k, b, e, ey, eb, l⟩
  · subst ey
    obtain ⟨z, hd, vs, rel, dd⟩ := dk_rd I.hok e
    obtain ⟨w', hw, rw'⟩ := RelO.some_of (v := v) (o := valueAt vs k) (by rw [l]; exact rel.val k)
    exact wpAny_getItem_of (kV_is ry) dd.mapOf hw (h w' _ (I.tok _) rw')
  · subst ey
    cases (show u = Value.ref b from ry)
    obtain ⟨z, hd, xs, rel, dd⟩ := dt_rd I.hok e
    obtain ⟨w', hw, rw'⟩ := RelO.some_of (v := v) (o := (atKey xs k).map (·.2)) (by rw [l]; exact rel.val k)
    obtain ⟨p, hp, hp2⟩ := Option.map_eq_some_iff.mp hw
    refine wpAny_getItem_heap (tupleKind_room_in1 hu) (key_of I.hok eb) dd hp ?_
    rw [hp2]
    exact h w' _ (I.tok _) rw'
/-- a dict's object is replaced -/
theorem d_write {h' : Heap} {t' : Nat} {ob : HO} (I : Inv X pins σ H s) (mu : Mut (H a)) (hs : Heap.SameBut a s.heap h') (he : ∃ q, h'.get? a = some q) (new : ObjOk X.prog X.w (upd H a ob) h' a ob) :
    Inv X pins σ (upd H a ob) { s with heap := h', toks := t' } :=
  I.write (x := a) (e := a) mu (.inl rfl) (fun b q hb z => (hs.2 b hb).trans z) he new
theorem dk_new {P : Program} {w : World} {H' : Hp} {h' : Heap} {kvs : List (Key × V)} {vs : List (Key × Value)} (z : kvs.length ≤ sizeLine) (hd : (a == sysModules) = false) (rel : KV kvs vs) (dd : h'.DictOf (mixKind P w) a vs) :
    ObjOk P w H' h' a (.dK kvs) := ⟨z, hd, vs, rel, dd⟩
/-- d[y] = v -/
theorem d_setItem {H' : Hp} {Q : Unit → Shared → Prop} (hu : A.units + 1 < cLine) (I : Inv X pins σ H s) (g : DPut H a y v H') (ry : RelV y u) (rv : RelV v r) (h : ∀ s', Inv X pins σ H' s' → Q () s') :
    wpAny (model X.prog X.w) A (setItem (.ref a) u r) Q E s := by
  rcases g with ⟨kvs, k, e, ey, l, eH⟩ | ⟨kvs, k, b, e, ey, eb, l, eH⟩
  · subst ey eH
    obtain ⟨z, hd, vs, rel, dd⟩ := dk_of I.hok e
    have hz : vs.length ≤ sizeLine := by rw [← rel.length]; exact z
    have hl : (putK kvs k v).length ≤ sizeLine := by have := length_putK kvs k v; omega
    refine wpAny_setItem_pairs (hsz := hz) (kV_is ry) dd fun h' dd' hs => h _ ?_
    have he : ∃ q, h'.get? a = some q := let ⟨q, _, _, hq, _⟩ := dd'; ⟨q, hq⟩
    exact d_write I (by rw [e]; exact True.intro) hs he (dk_new hl hd (rel.put k rv) dd')
  · subst ey eH
    cases (show u = Value.ref b from ry)
    obtain ⟨z, hd, xs, rel, dd⟩ := dt_of I.hok e
    have hz : xs.length ≤ sizeLine := by rw [← Paired.length rel]; exact z
    have hl : (putK kvs k v).length ≤ sizeLine := by have := length_putK kvs k v; omega
    refine wpAny_setItem_heap (hsz := hz) (tupleKind_room_in1 hu) (key_of I.hok eb) dd fun h' dd' hs => h _ ?_
    obtain ⟨q, es, ep, hq, h2, h3, h4, _, h5⟩ := dd'
    refine d_write I (by rw [e]; exact True.intro) hs ⟨q, hq⟩ ⟨hl, hd, _, (rel.put k eb rv).keeps fun c ys ec => ?_, q, es, ep, hq, h2, h3, h4, h5⟩
    rw [upd_ne (ne_of ec e (fun z => nomatch z))]
    exact ec
end

section
variable {X : Cx} {pins : List (Addr × Obj)} {σ : St} {H : Hp} {s : Shared} {a : Addr} {kvs : List (Key × V)} {k : Key} {u : Value} {A : Around} {E : Value → Shared → Prop}
/-- len(d) -/
theorem d_len {Q : Value → Shared → Prop} (I : Inv X pins σ H s) (e : Rd H a (.dK kvs)) (h : ∀ t s', Inv X pins σ H s' → Q (.int kvs.length t) s') : wpAny (model X.prog X.w) A (call (.builtin "len") [.ref a]) Q E s := by
  obtain ⟨z, hd, vs, rel, dd⟩ := dk_rd I.hok e
  refine call_len_dict hd dd (by rw [← rel.length]; rw [sizeLine_eq] at z; omega) ?_
  rw [← rel.length]
  exact h _ _ (I.tok _)
end


/-! ### readings and rules -/
/-- the element of a subscription, not a slice -/
def NoSl (i : Expr) : Prop := ∀ ov iv, subscripted i false ov iv = operate [ov, iv] (getItem ov iv)
theorem subD_of {prog : Program} {w : World} {A : Around} {E : Value → Shared → Prop} {s : Shared} {env : Env} {value slice : Expr} {pos : Pos} {T id : String} {Q : Value → Shared → Prop}
    (hl : typeLookup (.type T) "__getitem__" = pure (some (.builtin id))) (hs : NoSl slice)
    (h : wpAny (model prog w) A (eval value env) (fun o s₁ => wpAny (model prog w) A (eval slice env) (fun i s₂ => s₂.TypeIs o T ∧ wpAny (model prog w) A (getItem o i) Q E s₂) E s₁) E s) :
    wpAny (model prog w) A (eval (.Subscript value slice pos) env) Q E s := by
  refine Subscript_ (wpAny_mono h (fun o s₁ h₁ => wpAny_mono h₁ (fun i s₂ h₂ => ?_) fun _ _ x => x) fun _ _ x => x)
  obtain ⟨hT, h₂⟩ := h₂
  unfold subscriptTail
  refine wpAny_bind ?_
  rw [getitemInPython_of_ne hT.not_modules]
  refine wpAny_bind (wpAny_specialOf hT hl ?_)
  have fin : wpAny (model prog w) A (subscripted slice false o i) (fun r s₃ => wpAny (model prog w) A (letTemporaryGo value o r >>= fun _ => pure r) Q E s₃) E s₂ := by
    rw [hs o i]
    exact wpAny_operating (wpAny_mono h₂ (fun r s₃ h₃ => wpAny_bind (wpAny_letTemporaryGo (wpAny_pure h₃))) fun _ _ x => x)
  first
    | exact wpAny_pure (wpAny_bind fin)
    | exact wpAny_bind (wpAny_pure (wpAny_bind fin))
    | exact wpAny_bind fin

theorem dict_typeIs {X : Cx} {pins : List (Addr × Obj)} {σ : St} {H : Hp} {s : Shared} {a : Addr} {y : V} {o : Option V} (I : Inv X pins σ H s) (g : DGet H a y o) : s.TypeIs (.ref a) "dict" := by
  rcases g with ⟨kvs, k, e, _, _⟩ | ⟨kvs, k, b, e, _, _, _⟩
  · obtain ⟨_, _, vs, _, dd⟩ := dk_rd I.hok e
    exact dd.typeIs
  · obtain ⟨_, _, xs, _, dd⟩ := dt_rd I.hok e
    exact dd.typeIs
/-- d[y] -/
def tDGet (td ty : TE) : TE := fun σ H Q => td σ H fun x H1 => ty σ H1 fun y H2 => ∃ a v, x = .ref a ∧ DGet H2 a y (some v) ∧ Q v H2
/-- d[y] = v -/
def sDPut (td ty tv : TE) : TS := fun D σ H => tv σ H fun v H1 => td σ H1 fun x H2 => ty σ H2 fun y H3 => ∃ a H4, x = .ref a ∧ DPut H3 a y v H4 ∧ D.nx σ H4
section
variable {X : Cx} {o i e value : Expr} {pos pos' tpos : Pos} {td ty tv : TE}
theorem pe_dget (hu : X.A.units + 1 < cLine) (ho : PE X o td) (hi : PE X i ty) (hs : NoSl i) : PE X (.Subscript o i pos) (tDGet td ty) := by
  intro pins s σ H Q I h
  refine subD_of PySem.F.slot_dict_getitem.lookup hs (thn (ho pins s σ H _ I h) fun u s1 ⟨x, H1, I1, rx, q1⟩ => thn (hi pins s1 σ H1 _ I1 q1) fun iv s2 ⟨y, H2, I2, ry, a, v, ex, g, q2⟩ => ?_)
  subst ex
  obtain rfl : u = Value.ref a := rx
  exact ⟨dict_typeIs I2 g, d_getItem hu I2 g ry fun w' s3 I3 rw' => ⟨v, H2, I3, rw', q2⟩⟩
theorem ps_dput (hu : X.A.units + 1 < cLine) (ho : PE X o td) (hi : PE X i ty) (hv : PE X value tv) (hs : swapsWith value (some (.Subscript o i pos')) pos.line X.env = pure false) :
    PS X (.Assign [.Subscript o i pos'] value pos) (sDPut td ty tv) := by
  intro pins s σ H D I h
  refine wpAny_Assign_Subscript (thn (hv pins s σ H _ I h) fun r s1 ⟨v, H1, I1, rv, q1⟩ => thn (ho pins s1 σ H1 _ I1 q1) fun u s2 ⟨x, H2, I2, rx, q2⟩ => thn (hi pins s2 σ H2 _ I2 q2) fun iv s3 ⟨y, H3, I3, ry, a, H4, ex, g, q3⟩ => ?_) hs
  subst ex
  obtain rfl : u = Value.ref a := rx
  exact d_setItem hu I3 g ry rv fun s4 I4 => ⟨σ, H4, I4, q3⟩
end


/-! ### displays -/
theorem dk_empty {P : Program} {w : World} {H : Hp} (h : Heap) (hb : sysModules < h.objs.size) : ObjOk P w H (h.push { cls := .type "dict", data := .dict #[] }) h.objs.size (.dK []) :=
  ⟨Nat.zero_le _, beq_eq_false_iff_ne.mpr (Ne.symm (Nat.ne_of_lt hb)), [], .nil, Heap.DictOf.new h⟩
section
variable {X : Cx} {pos : Pos}
end

/-- the pairs of a display, from the left -/
def tPairs : List (TE × TE) → St → Hp → (List (V × V) → Hp → Prop) → Prop
  | [], _, H, Q => Q [] H
  | (tk, tv) :: r, σ, H, Q => tk σ H fun x H1 => tv σ H1 fun y H2 => tPairs r σ H2 fun ps H3 => Q ((x, y) :: ps) H3
abbrev VV : List (V × V) → List (Value × Value) → Prop := Paired fun p q => RelV p.1 q.1 ∧ RelV p.2 q.2
def PPs (X : Cx) (pos : Pos) (keys : List (Option Expr)) (values : List Expr) (trs : List (TE × TE)) : Prop :=
  ∀ (pins : List (Addr × Obj)) (s : Shared) (σ : St) (H : Hp) (Q : List (V × V) → Hp → Prop), Inv X pins σ H s → tPairs trs σ H Q →
    wpAny (model X.prog X.w) X.A (evalPairs (pairTrees keys values X.env pos)) (fun vs s' => ∃ ps H', Inv X pins σ H' s' ∧ VV ps vs ∧ Q ps H') X.xe s
theorem pps_nil {X : Cx} {pos : Pos} : PPs X pos [] [] [] := fun pins s σ H Q I h => pairTrees_nil_walk ⟨[], H, I, .nil, h⟩
theorem pps_cons {X : Cx} {pos : Pos} {k v : Expr} {ks : List (Option Expr)} {vs : List Expr} {tk tv : TE} {trs : List (TE × TE)} (hk : PE X k tk) (hv : PE X v tv) (hr : PPs X pos ks vs trs) :
    PPs X pos (some k :: ks) (v :: vs) ((tk, tv) :: trs) := fun pins s σ H Q I h =>
  pairTrees_cons_walk (thn (hk pins s σ H _ I h) fun u s1 ⟨x, H1, I1, rx, q1⟩ => thn (hv pins s1 σ H1 _ I1 q1) fun w2 s2 ⟨y, H2, I2, ry, q2⟩ =>
    thn (hr pins s2 σ H2 _ I2 q2) fun ws s3 ⟨ps, H3, I3, rel, q3⟩ => ⟨(x, y) :: ps, H3, I3, .cons ⟨rx, ry⟩ rel, q3⟩)

def mergeK (kvs more : List (Key × V)) : List (Key × V) := more.foldl (fun acc kv => putK acc kv.1 kv.2) kvs
theorem KV.merge : ∀ {more : List (Key × V)} {rs : List (Key × Value)} {kvs : List (Key × V)} {vs : List (Key × Value)}, KV more rs → KV kvs vs → KV (mergeK kvs more) (merged vs rs) := by
  intro more rs kvs vs r
  unfold KV at r
  induction r generalizing kvs vs with
  | nil => intro q; exact q
  | @cons p q ps qs h t ih =>
    intro r0
    have e : KV (putK kvs p.1 p.2) (stored vs q.1 q.2) := by
      have := r0.put p.1 h.2
      rw [← h.1]; exact this
    exact ih e
theorem length_mergeK : ∀ (more kvs : List (Key × V)), (mergeK kvs more).length ≤ kvs.length + more.length
  | [], kvs => by show kvs.length ≤ kvs.length + 0; omega
  | p :: r, kvs => by
    have h1 := length_mergeK r (putK kvs p.1 p.2)
    have h2 := length_putK kvs p.1 p.2
    show (mergeK (putK kvs p.1 p.2) r).length ≤ _
    rw [List.length_cons]; omega
theorem carries_of {P : Program} {w : World} : ∀ {kvs : List (Key × V)} {ws : List (Value × Value)}, VV (kvs.map fun kv => (kV kv.1, kv.2)) ws → ∃ rs, Carries (mixKind P w) ws rs ∧ KV kvs rs
  | [], _, r => by rw [List.map_nil] at r; cases r; exact ⟨[], True.intro, .nil⟩
  | p :: kvs, _, r => by
    rw [List.map_cons] at r
    cases r with
    | @cons a b as bs h t =>
      obtain ⟨rs, c, q⟩ := carries_of (P := P) (w := w) t
      obtain ⟨b1, b2⟩ := b
      exact ⟨(p.1, b2) :: rs, ⟨kV_is h.1, rfl, c⟩, .cons ⟨rfl, h.2⟩ q⟩
/-- {k: v, ..} with keys ints and texts; the new dict stands empty while the pairs are made -/
def tDisp (trs : List (TE × TE)) : TE := fun σ H Q => ∀ p, H p = none → tPairs trs σ (upd H p (.dK [])) fun ps H2 => H2 p = some (.dK []) ∧ ∃ kvs : List (Key × V), ps = kvs.map (fun kv => (kV kv.1, kv.2)) ∧ kvs.length ≤ 15 ∧ Q (.ref p) (upd H2 p (.dK (mergeK [] kvs)))
theorem pe_disp {X : Cx} {pos : Pos} {keys : List (Option Expr)} {values : List Expr} {trs : List (TE × TE)} (h : PPs X pos keys values trs) (hall : keys.all (·.isSome) = true) (hl : keys.length = values.length) (h0 : keys ≠ [])
    (h15 : keys.length ≤ 15) : PE X (.Dict keys values pos) (tDisp trs) := by
  intro pins s σ H Q I q
  have hn := I.hok.fresh (Nat.le_refl s.heap.objs.size)
  have I1 := I.laid (a := s.heap.objs.size) (o := .dK []) (h' := s.heap.push { cls := .type "dict", data := .dict #[] }) (t' := s.toks) (fun _ _ q => Heap.get?_push_of_some _ q) (Nat.le_refl _) (dk_empty s.heap I.big)
  refine wpAny_Dict_walk (knd := mixKind X.prog X.w) hall hl h0 h15 (thn (h pins _ σ _ _ I1 (q _ hn)) fun ws s2 ⟨ps, H2, I2, rel, e, kvs, ep, lk, q2⟩ => ?_)
  subst ep
  obtain ⟨rs, c, rk⟩ := carries_of (P := X.prog) (w := X.w) rel
  obtain ⟨z, hd, vs0, r0, dd⟩ := dk_of I2.hok e
  cases r0
  refine ⟨rs, c, dd, fun h' dd' hs => ⟨.ref s.heap.objs.size, _, ?_, rfl, q2⟩⟩
  have hz : (mergeK [] kvs).length ≤ sizeLine := by
    have h1 := length_mergeK kvs []
    rw [List.length_nil] at h1
    rw [sizeLine_eq]; omega
  have he : ∃ q, h'.get? s.heap.objs.size = some q := let ⟨q, _, _, hq, _⟩ := dd'; ⟨q, hq⟩
  exact d_write I2 (by rw [e]; exact True.intro) hs he (dk_new hz hd (rk.merge .nil) dd')


/-! ### methods -/
/-- a method call o.m(e) of a built-in, with one argument: what must be seen of the text -/
structure M1 (X : Cx) (o : Expr) (m : Str) (apos : Pos) (e : Expr) (cpos : Pos) : Prop where
  base : attributeBase o m X.env (eval o X.env) = eval o X.env
  few : ((backTo cpos (starEach [e] X.env)).all (fun x => !x.1) && (backToKw cpos (keywordEach [] X.env)).all (fun x => x.1.isSome)
    && decide (([e] : List Expr).length + ([] : List Keyword).length + (if ([] : List Keyword).isEmpty then 0 else 1) < 30)) = true
  line : (apos.endLine == cpos.line) = true
  trees : backTo cpos (starEach [e] X.env) = [(false, eval e X.env)]
structure M2 (X : Cx) (o : Expr) (m : Str) (apos : Pos) (e f : Expr) (cpos : Pos) : Prop where
  base : attributeBase o m X.env (eval o X.env) = eval o X.env
  few : ((backTo cpos (starEach [e, f] X.env)).all (fun x => !x.1) && (backToKw cpos (keywordEach [] X.env)).all (fun x => x.1.isSome)
    && decide (([e, f] : List Expr).length + ([] : List Keyword).length + (if ([] : List Keyword).isEmpty then 0 else 1) < 30)) = true
  line : (apos.endLine == cpos.line) = true
  trees : backTo cpos (starEach [e, f] X.env) = [(false, eval e X.env), (false, eval f X.env)]

section
variable {X : Cx} {pins : List (Addr × Obj)} {σ : St} {H : Hp} {s : Shared} {a : Addr} {y d : V} {u r : Value} {o : Option V} {A : Around} {E : Value → Shared → Prop}
end

section
variable {X : Cx} {o e f : Expr} {apos cpos : Pos} {td ty tx : TE}
end

/-! ### dict(d): a copy -/
section
variable {X : Cx} {pins : List (Addr × Obj)} {σ : St} {H : Hp} {s : Shared} {a : Addr} {kvs : List (Key × V)} {A : Around} {E : Value → Shared → Prop}
end


section
variable {X : Cx} {pins : List (Addr × Obj)} {σ : St} {H : Hp} {s : Shared} {a : Addr} {y : V} {u : Value} {A : Around} {E : Value → Shared → Prop}
end
end L2

namespace L2
open PySem PySem.Spec PyProof.Rows

section
variable {prog : Program} {w : World} {A : Around} {E : Value → Shared → Prop}
end

section
variable {X : Cx}
end
end L2

namespace L2
open PySem PySem.Spec PyProof.Rows

section
variable {X : Cx} {pins : List (Addr × Obj)} {σ : St} {H : Hp} {s : Shared} {h' : Heap}
/-! ### locking a thing while a statement runs -/
end
section
variable {X : Cx}
/-! ### one iterator just laid -/
end

/-! ### range with a step -/
/-- range(i, j, c): small bounds, n items -/
def RgC (i j c : Int) (n : Nat) : Prop := c ≠ 0 ∧ c.natAbs < 1073741824 ∧ Builtin.Range.small i j c = true ∧ Builtin.Range.rangeSize i j c = n
theorem RgC.neg {i j : Int} (ha : -(2 ^ 62) ≤ i) (ha' : i < 2 ^ 62) (hb : -(2 ^ 62) ≤ j) (hb' : j < 2 ^ 62) : RgC i j (-1) (i - j).toNat :=
  ⟨by decide, by decide, PySem.W.small_down ha ha' hb hb', PySem.W.rangeSize_downNat i j⟩
section
variable {X : Cx} {tg : Expr}
end
/-! ### reversed(list) -/
section
variable {X : Cx} {tg : Expr}
end

/-! ### a str -/
/-! ### a dict's keys: any dict's entries -/
section
variable {prog : Program} {w : World} {A : Around} {E : Value → Shared → Prop} {s : Shared}
end

/-! ### a locked dict -/
section
variable {X : Cx} {pins : List (Addr × Obj)} {σ : St} {H : Hp} {s : Shared} {d : Addr} {o : Obj}
end

section
variable {P : Program} {w : World} {K : PySem.W.Frag} {tg : Expr} {d : Addr} {o : Obj} {es : Array DictEntry} {ep : Nat}
end

/-! ### for k in d, d.keys(), d.values(), d.items() -/
section
variable {X : Cx} {tg e : Expr} {td : TE} {apos cpos : Pos}
end

/-! ### enumerate(list) -/
/-! ### zip(list, list) -/
end L2

section 
namespace Bits
open PySem PyProof.Rows

end Bits
end 

section 
namespace TL
open PySem PySem.Builtin PySem.Builtin.Str PySem.StrLaws

abbrev tl (x : Str) : List Nat := x.cps.toList
/-! ### the list functions -/
/-- S stands at the head of l -/
def pre (S l : List Nat) : Bool := l.take S.length == S
/-- l cut at each S from the left; k signs are still to be passed over -/
def spl (S : List Nat) : Nat → List Nat → List Nat → List (List Nat)
  | _, acc, [] => [acc]
  | 0, acc, c :: r => if pre S (c :: r) = true then acc :: spl S (S.length - 1) [] r else spl S 0 (acc ++ [c]) r
  | k + 1, acc, _ :: r => spl S k acc r
/-- what stands before the first S, and behind it -/
def par (S : List Nat) : List Nat → List Nat → Option (List Nat × List Nat)
  | _, [] => none
  | acc, c :: r => if pre S (c :: r) = true then some (acc, (c :: r).drop S.length) else par S (acc ++ [c]) r

/-! ### the model's split and partition are these -/
/-! ### computing spl and par -/
/-! ### digits -/
/-! ### words: x.split() -/
end TL
end 

namespace L2
open PySem PySem.Spec PyProof.Rows

/-- a list of texts, of numbered texts -/
theorem vals_strs : ∀ l : List (Str × Tok), Vals ((l.map (·.1)).map V.str) (strValues l)
  | [] => .nil
  | p :: r => .cons ⟨p.2, rfl⟩ (vals_strs r)
theorem strs_of_vals : ∀ {ys : List Str} {us : List Value}, Vals (ys.map V.str) us → StrsAre us ys
  | [], _, .nil => .nil
  | y :: ys, _, .cons r t => by
    obtain ⟨k, rfl⟩ := r
    exact .cons y k (strs_of_vals t)

/-- a new list of texts, tracked -/
def rNewStrs (ys : List Str) : Hp → VK → Prop := fun H Q => ∀ p, H p = none → Q (.ref p) (upd H p (.lst (ys.map V.str)))

section
variable {X : Cx} {pins : List (Addr × Obj)} {σ : St} {H : Hp} {s : Shared} {Q : VK}
theorem laid_strs {l : List (Str × Tok)} {ys : List Str} {k : Nat} (I : Inv X pins σ H s) (e : l.map (·.1) = ys) (hz : ys.length ≤ sizeLine) (h : rNewStrs ys H Q) :
    EP X pins σ Q (.ref s.heap.objs.size) { s with toks := k, heap := s.heap.push { cls := .type "list", data := .seq (strValues l).toArray } } := by
  have hp := I.hok.fresh (Nat.le_refl _)
  refine ⟨.ref s.heap.objs.size, upd H s.heap.objs.size (.lst (ys.map V.str)), I.laid (fun b u q => Heap.get?_push_of_some _ q) (Nat.le_refl _) ⟨by rw [List.length_map]; exact hz, strValues l, _, ?_, Heap.get?_push_size _ rfl⟩, rfl, h _ hp⟩
  rw [← e]
  exact vals_strs l
end

section
variable {X : Cx}

/-- x.split(sep) -/
theorem mt_split : MtR X "str.split" (fun x xs H Q => ∃ a b, x = .str a ∧ xs = [.str b] ∧ (b.length == 0) = false ∧ a.length + 2 ≤ sizeLine ∧ rNewStrs (Txt.split a b) H Q) := by
  intro pins s σ H x xs v us Q I rx rs h
  obtain ⟨a, b, rfl, rfl, hb, hz, h⟩ := h
  obtain ⟨t, rfl⟩ := rx
  cases rs with
  | cons r1 rs =>
    cases rs
    obtain ⟨u, rfl⟩ := r1
    have hl : (Txt.split a b).length ≤ sizeLine := Nat.le_trans (PyProof.Rows.split_le a b) hz
    have hn : (Builtin.Str.partsBetween a (Builtin.Str.occurrences a b 0 a.length (a.length + 1)) b.length).length ≤ sizeLine := by
      have e1 := StrLaws.occ_length_le a b 0 a.length (a.length + 1)
      rw [length_partsBetween]; omega
    cases h1 : (decide (a.length < b.length) || decide (Builtin.Str.strKind a < Builtin.Str.strKind b))
    · cases hf : (Builtin.Str.occurrences a b 0 a.length (a.length + 1)).isEmpty
      · refine call_meets F.slot_str_split (typeIs_str _ _ _) F.entry_str_split (F.args_str_split_2 _ _) (meets_str_split_sep a b t u h1 hb hf (by omega) hn) ?_
        show EP X pins σ Q (.ref s.heap.objs.size) { s with toks := _, heap := s.heap.push { cls := .type "list", data := .seq (strsFrom s.toks (Builtin.Str.partsBetween a (Builtin.Str.occurrences a b 0 a.length (a.length + 1)) b.length)).toArray } }
        rw [strsFrom_eq]
        exact laid_strs (ys := Txt.split a b) I ((numbered_texts _ _).trans ((if_neg (ne_true_of_eq_false h1)).trans (if_neg (ne_true_of_eq_false hf))).symm) hl h
      · refine call_meets F.slot_str_split (typeIs_str _ _ _) F.entry_str_split (F.args_str_split_2 _ _) (meets_str_split_not_found a b t u h1 hb hf) ?_
        exact laid_strs (l := [(a, t)]) (ys := Txt.split a b) (k := s.toks) I ((if_neg (ne_true_of_eq_false h1)).trans (if_pos hf)).symm hl h
    · refine call_meets F.slot_str_split (typeIs_str _ _ _) F.entry_str_split (F.args_str_split_2 _ _) (meets_str_split_cannot_occur a b t u h1) ?_
      exact laid_strs (l := [(a, t)]) (ys := Txt.split a b) (k := s.toks) I (if_pos h1).symm hl h

/-- sep.join(a list | a tuple of texts) -/
theorem mt_join : MtR X "str.join" (fun x xs H Q => ∃ a p, ∃ ys : List Str, x = .str a ∧ xs = [.ref p] ∧ (SqL X.K H p (ys.map V.str) ∨ SqT X.K H p (ys.map V.str)) ∧
    (ys.map (·.length)).sum + ys.length * a.length ≤ 16777216 ∧ Q (.str (Txt.join a ys)) H) := by
  intro pins s σ H x xs v us Q I rx rs h
  obtain ⟨a, p, ys, rfl, rfl, hp, hz, h⟩ := h
  obtain ⟨t, rfl⟩ := rx
  cases rs with
  | cons r1 rs =>
    cases rs
    cases r1
    rcases hp with hp | hp
    · obtain ⟨its, r, ⟨o, n, ho, hc, _, hd⟩, _⟩ := I.list hp
      exact PyProof.Rows.join_list (items := its.toArray) ⟨o, ho, hc, n, hd⟩ (by rw [List.toList_toArray]; exact strs_of_vals r) hz fun t' k => ⟨.str _, H, I.tok k, ⟨t', rfl⟩, h⟩
    · obtain ⟨its, r, ht, _⟩ := I.tuple hp
      exact PyProof.Rows.join_tuple (items := its.toArray) ht (by rw [List.toList_toArray]; exact strs_of_vals r) hz fun t' k => ⟨.str _, H, I.tok k, ⟨t', rfl⟩, h⟩

/-! ### of a text alone -/
/-! ### of a text and a text -/
/-- int(text) -/
theorem call_int_str : CallR X (.type "int") (fun xs H Q => ∃ a n, xs = [.str a] ∧ PySem.intText? a = some n ∧ a.length ≤ 640 ∧ Q (.int n) H) := by
  intro pins s σ H xs us Q I rs h
  obtain ⟨a, n, rfl, hn, hl, h⟩ := h
  cases rs with
  | cons r1 rs =>
    cases rs
    obtain ⟨t, rfl⟩ := r1
    exact PySem.W.KIN.call_text hn hl ⟨.int n, H, I.tok _, ⟨_, rfl⟩, h⟩
end

section
variable {X : Cx} {o e : Expr} {to te : TE}
end
end L2

namespace L2
open PySem PySem.Spec PyProof.Rows

section
variable {X : Cx}
end

/-! ### slices of a text -/
theorem IsPart.raw {v : Value} {o : Option Int} (p : IsPart v o) : ∃ l : Option (Int × Tok), v = partValue l ∧ l.map (·.1) = o := by
  cases p with
  | none => exact ⟨none, rfl, rfl⟩
  | int i t => exact ⟨some (i, t), rfl, rfl⟩

/-- a part, clipped, as the text's slice reckons it -/
def clipS (n d : Nat) : Option Int → Int
  | none => (d : Int)
  | some i => max 0 (min (if i < 0 then i + (n : Int) else i) (n : Int))
theorem clipS_eq (n d : Nat) (o : Option Int) : clipS n d o = ((HT.sIx n d o : Nat) : Int) := by
  cases o with
  | none => rfl
  | some v =>
    show max (0 : Int) (min (if v < 0 then v + (n : Int) else v) (n : Int)) = (((if v < 0 then (v + (n : Int)).toNat else min v.toNat n) : Nat) : Int)
    by_cases hv : v < 0
    · simp only [if_pos hv]
      omega
    · simp only [if_neg hv]
      omega
theorem sidx_clip (a b : Option Int) (n : Nat) : Builtin.Str.strSliceIndices a b 1 n = sliceRange (clipS n 0 a) (clipS n n b) 1 := by
  have h1 : ((1 : Int) > 0) = True := by simp
  cases a <;> cases b <;> first
    | rfl
    | (simp only [Builtin.Str.strSliceIndices, clipS, h1, if_true]; rfl)
    | simp [Builtin.Str.strSliceIndices, clipS]
theorem sidx (a b : Option Int) (n : Nat) : Builtin.Str.strSliceIndices a b 1 n = (List.range (HT.sIx n n b - HT.sIx n 0 a)).map (fun k => HT.sIx n 0 a + k) := by
  rw [sidx_clip, clipS_eq, clipS_eq]
  generalize HT.sIx n 0 a = p
  generalize HT.sIx n n b = q
  simp only [sliceRange, show ((1 : Int) > 0) = True from by simp, if_true]
  by_cases hlt : (p : Int) < q
  · have e3 : (((q : Int) - p + 1 - 1) / 1).toNat = q - p := by first | omega | (simp; done) | (simp; omega)
    simp only [hlt, if_true, e3]
    refine List.map_congr_left fun k _ => ?_
    omega
  · have : q - p = 0 := by omega
    simp [hlt, this]

/-- z[lo:hi] -/
def cutS (z : Str) (lo hi : Option Int) : Str :=
  ⟨((z.cps.toList.drop (HT.sIx z.length 0 lo)).take (HT.sIx z.length z.length hi - HT.sIx z.length 0 lo)).toArray⟩
theorem sliceText_cut (z : Str) (lo hi : Option Int) : PySem.StrLaws.sliceText z lo hi = cutS z lo hi := by
  have h1 : HT.sIx z.length 0 lo ≤ z.length := HT.sIx_le _ _ (Nat.zero_le _) _
  have h2 : HT.sIx z.length z.length hi ≤ z.length := HT.sIx_le _ _ (Nat.le_refl _) _
  have hp : HT.sIx z.length 0 lo ≤ max (HT.sIx z.length 0 lo) (HT.sIx z.length z.length hi) := Nat.le_max_left _ _
  have hq : max (HT.sIx z.length 0 lo) (HT.sIx z.length z.length hi) ≤ z.length := Nat.max_le.mpr ⟨h1, h2⟩
  have hd : max (HT.sIx z.length 0 lo) (HT.sIx z.length z.length hi) - HT.sIx z.length 0 lo = HT.sIx z.length z.length hi - HT.sIx z.length 0 lo := by omega
  have e : Builtin.Str.strSliceIndices lo hi 1 z.length =
      Builtin.Str.strSliceIndices (some ((HT.sIx z.length 0 lo : Nat) : Int)) (some ((max (HT.sIx z.length 0 lo) (HT.sIx z.length z.length hi) : Nat) : Int)) 1 z.length := by
    rw [PySem.StrLaws.strSliceIndices_plain hp hq, hd, sidx]
  have e2 : PySem.StrLaws.sliceText z lo hi =
      PySem.StrLaws.sliceText z (some ((HT.sIx z.length 0 lo : Nat) : Int)) (some ((max (HT.sIx z.length 0 lo) (HT.sIx z.length z.length hi) : Nat) : Int)) := by
    unfold PySem.StrLaws.sliceText
    rw [e]
  rw [e2, PySem.StrLaws.sliceText_nat z hp hq, hd]
  rfl
theorem cutS_length (z : Str) (lo hi : Option Int) : (cutS z lo hi).length ≤ z.length := by
  show (((z.cps.toList.drop (HT.sIx z.length 0 lo)).take (HT.sIx z.length z.length hi - HT.sIx z.length 0 lo)).toArray).size ≤ z.cps.size
  rw [List.size_toArray, List.length_take, List.length_drop, Array.length_toList]
  omega
def rSlS : V → Option Int → Option Int → Hp → VK → Prop := fun x lo hi H Q => ∃ z, x = .str z ∧ z.length ≤ sizeLine ∧ Q (.str (cutS z lo hi)) H
theorem sl_str {X : Cx} : SlR X rSlS := by
  intro pins s σ H x v vl vu lo hi sl Q I rx hs pl pu h
  obtain ⟨z, rfl, hz, q⟩ := h
  obtain ⟨t, rfl⟩ := rx
  obtain ⟨os, hos, hcs, hds⟩ := hs
  obtain ⟨l, rfl, rfl⟩ := IsPart.raw pl
  obtain ⟨u, rfl, rfl⟩ := IsPart.raw pu
  refine ⟨"str", _, F.slot_str_getitem.lookup, typeIs_str _ _ _, ?_⟩
  refine wpAny_getItem_str_slice (l := l) (u := u) (st := none) ⟨os, hos, hcs, hds⟩ rfl ?_
  have hl : (PySem.StrLaws.sliceText z (l.map (·.1)) (u.map (·.1))).length ≤ sizeLine := by
    rw [sliceText_cut]
    exact Nat.le_trans (cutS_length z _ _) hz
  rw [← sliceText_cut] at q
  unfold PySem.StrLaws.sliceText at q hl
  show Made.post (if ((1 : Int) == 1 && (Builtin.Str.strSliceIndices (l.map (·.1)) (u.map (·.1)) 1 z.length).length == z.length) = true then Made.val (.str z t)
    else Made.str ⟨((Builtin.Str.strSliceIndices (l.map (·.1)) (u.map (·.1)) 1 z.length).filterMap (z.cps[·]?)).toArray⟩) (EP X pins σ Q) s
  by_cases c : ((1 : Int) == 1 && (Builtin.Str.strSliceIndices (l.map (·.1)) (u.map (·.1)) 1 z.length).length == z.length) = true
  · rw [if_pos c] at q ⊢
    exact ⟨.str z, H, I, ⟨t, rfl⟩, q⟩
  · rw [if_neg c] at q hl ⊢
    exact ⟨hl, .str _, H, I.tok _, ⟨_, rfl⟩, q⟩
end L2

namespace Att
open PySem PySem.W PySem.Calls PyProof.Rows

/-! ### the script -/
theorem ints_of_wellAll {P : Params} {h : Heap} : ∀ (ns : List Int) (vs : List Value), WellAll P h vs (ns.map WData.int) → IntsAre vs ns := by
  intro ns
  induction ns with
  | nil =>
    intro vs w
    rw [List.map_nil] at w
    cases w
    exact .nil
  | cons n ns ih =>
    intro vs w
    rw [List.map_cons] at w
    cases w with
    | cons a b =>
      cases a
      exact .cons _ _ (ih _ b)

theorem script_of {l : OpenLaw} {n : Nat} (hn : l.most = some n) {P : Params} {h : Heap} {args : List WData} {vals : List Value}
    (hpre : l.row.toRowW.claim.pre args = true) (hwl : WellAll P h vals args) :
    ∃ a vs ns, vals = [Value.ref a] ∧ args = [WData.list (ns.map WData.int)] ∧ h.get? a = some { cls := .type "list", data := .seq vs.toArray } ∧ IntsAre vs ns ∧ ns.length ≤ n := by
  have hsh : WShape.hasAll [] args [.list .int] = true := (pre_splitW hpre).1
  have hc : l.pre.holds [] { args := args } = true := (pre_splitW hpre).2
  obtain ⟨d, r, rfl, h1, h2⟩ := hasAllW_cons hsh
  obtain rfl := hasAllW_nil h2
  obtain ⟨xs, rfl, h3⟩ := hasW_list h1
  obtain ⟨ns, rfl⟩ := items_int h3
  have hlen : ns.length ≤ n := by
    unfold OpenLaw.pre at hc
    have h4 : (WTm.not (.lt (.lit (.int (n : Int))) (.len (.arg 0)))).holds [] { args := [.list (ns.map .int)] } = true := by
      have h4 := (holds_andW hc).1
      rw [hn] at h4
      exact h4
    have h5 := condW_of h4 (w_not (w_lt w_lit (w_len_list (w_arg rfl))))
    rw [List.length_map] at h5
    refine Nat.le_of_not_lt fun q => ?_
    have q' : (n : Int) < ((ns.length : Nat) : Int) := by omega
    first
      | (rw [decide_eq_true q'] at h5; exact absurd h5 (by decide))
      | (simp at h5; omega)
  cases hwl with
  | cons w1 w2 =>
    cases w2
    cases w1 with
    | list ho hall => exact ⟨_, _, ns, rfl, rfl, ho, ints_of_wellAll ns _ hall, hlen⟩

theorem post_true (l : OpenLaw) (args : List WData) : l.row.toRowW.claim.post args (.bool true) args = true :=
  postW_of (r := l.row.toRowW) (X := (true == true))
    (show WShape.has [] (.bool true) .bool = true by first | rfl | decide | simp [WShape.has, WShape.arms, WShape.armsAll])
    (show (WTm.eq .res (.lit (.bool true))).value [] { args := args, res := some (.bool true), after := args } = some (.bool (true == true)) from w_eq_bool (w_res rfl) w_lit) rfl

/-! ### the attachment: holds_open's last premise (the goal 'hc' behind k_head) from a wpAny of the law's body -/
/-- the same from a codeAny of the CALL (for a layer whose function contracts speak of calls) -/
theorem attach_call {l : OpenLaw} {n : Nat} {q : Program} {loose : List Str} {XP : (Str → Option Value) → Heap → Prop} {YP : World → Heap → Prop} {d : DefRec}
    (hn : l.most = some n) (hdf : d.params.defaults = [])
    (call : ∀ (w : World) (s₀ s₁ : Shared) (mg mb : Str → Option Value) (fa : Addr) (o : Obj) (pm cd doc : Value) (a : Addr) (vs : List Value) (ns : List Int),
      Ground q loose [] XP w s₀ mg mb s₁.heap → YP w s₁.heap →
      s₁.heap.get? fa = some o → o.data = .func (docDef d.name d.params d.body d.scope pm cd doc) → s₁.heap.CodeRec cd d.name → mg d.name = some (.ref fa) →
      s₁.heap.get? a = some { cls := .type "list", data := .seq vs.toArray } → IntsAre vs ns → ns.length ≤ n → s₁.gens = #[] →
      codeAny (model l.prog w) callerA (.call (.ref fa) ⟨[.ref a], []⟩) (fun r s' => r = .ok (.ret (.bool true)) ∧ OldK s₁.heap s'.heap ∧ s'.os = s₁.os ∧ AllBare s'.gens) s₁) :
    WalkO q loose XP YP l.row.toRowW d [] (fun f vs => PySem.call f vs) := by
  intro w s₀ s₁ mg mb G Y fa o pm cd doc dV kV ho hd hcd hD hmg hg args vals as hpre hlay hrd hwl hlo
  obtain rfl : dV = .none := Dflts.none hD hdf
  obtain rfl : kV = .none := Dflts.noKw hD
  obtain ⟨a, vs, ns, rfl, rfl, hobj, hints, hlen⟩ := script_of hn hpre hwl
  refine enter_call (codeAny_mono (call w s₀ s₁ mg mb fa o pm cd doc a vs ns G Y ho (fd_plain hd) hcd hmg hobj hints hlen hg) fun r s' hq => ?_)
  obtain ⟨rfl, h2, h3, h4⟩ := hq
  exact ⟨.inl ⟨.bool true, .bool true, [], rfl, fun _ => rfl, .bool true, post_true l _, fun _ => ⟨List.Pairwise.nil, fun _ hm => (nomatch hm)⟩⟩, h2, h3, h4⟩

/-! ### rules over ANY heap (no ledger) from facts about the written part K: the library's own take a ledger (News) for what they write -/
section
variable {prog : Program} {w : World} {A : Around} {E : Value → Shared → Prop} {s : Shared} {K : Frag}

/-! the whole heap as the ledger: makes every rule that writes through a ledger a rule over any heap -/
def ledger (h : Heap) (L d : Addr) : List (Addr × Obj) := (List.range h.objs.size).filterMap fun a => if a = L ∨ a = d then none else (h.get? a).map fun o => (a, o)
end
end Att

namespace L2
open PySem PySem.Spec PyProof.Rows

theorem vals_ints : ∀ {vs : List Value} {ns : List Int}, IntsAre vs ns → Vals (ns.map V.int) vs
  | _, _, .nil => .nil
  | _, _, .cons n t h => .cons ⟨t, rfl⟩ (vals_ints h)

/-- nothing is tracked but the script, known to the object (or it is an object of the module) -/
def Only (H : Hp) : Prop := ∀ b, H b = none ∨ ∃ o xs, H b = some (.frz o (.lst xs))

/-- THE HEAD: the law's promise, at the heap behind the top. F, the promise of the law's def, may use that base is part of the heap (so K.In base, base.Ns mainGlobals mg stand in Mod) -/
theorem law_call {P : Program} {w : World} {K : PySem.W.Frag} {mg mb : Str → Option Value} {CX : CXT} {k : Nat} {fa a : Addr} {fd : FuncData} {x : Str} {sp : Sp} {s₁ : Shared} {vs : List Value} {ns : List Int}
    (KX : K.In s₁.heap) (hns : s₁.heap.Ns mainGlobals mg) (hb : s₁.heap.Ns builtinsNs mb) (hbb : ∀ x : Str, x ≠ "__name__" → mb x = bootBuiltins x) (hlim : s₁.heap.NoLimit) (hg : s₁.gens = #[])
    (ha : s₁.heap.get? a = some { cls := .type "list", data := .seq vs.toArray }) (hi : IntsAre vs ns) (hl : ns.length ≤ sizeLine) (hr : Room k callerA)
    (F : ∀ base : Heap, K.In base → base.Ns mainGlobals mg → FnOk P w K mg base CX k fa fd [x] sp) (hbind : ∀ (s : Shared) (u : Value), BindsTo s fd ⟨[u], []⟩ [(x, u)])
    (hsp : ∀ H : Hp, Only H → SqL K H a (ns.map V.int) → sp [.ref a] H (fun v _ => v = .bl true) fun _ _ _ => False)
    (hCX : ∀ H e s', CX [] H s₁ (fun _ _ _ => False) e s' → False) :
    codeAny (model P w) callerA (.call (.ref fa) ⟨[.ref a], []⟩) (fun r s' => r = .ok (.ret (.bool true)) ∧ OldK s₁.heap s'.heap ∧ s'.os = s₁.os ∧ AllBare s'.gens) s₁ := by
  have rv := vals_ints hi
  have lenV := hi.length
  -- from an abstract heap in which nothing but the script may be tracked
  have core : ∀ H : Hp, Only H → SqL K H a (ns.map V.int) → HOk P w H s₁.heap → (∀ b, H b ≠ none → b = a) → (H a ≠ none → K.lookup a = none) →
      codeAny (model P w) callerA (.call (.ref fa) ⟨[.ref a], []⟩) (fun r s' => r = .ok (.ret (.bool true)) ∧ OldK s₁.heap s'.heap ∧ s'.os = s₁.os ∧ AllBare s'.gens) s₁ := by
    intro H hO hS hok hA hK
    have base_of : ∀ {b : Addr} {o : Obj}, s₁.heap.get? b = some o → H b = none → (hidT s₁.heap H).get? b = some o := fun e n => hidT_get e n
    have noA : ∀ {b : Addr} {o : Obj} {es : Array DictEntry} {ep : Nat}, s₁.heap.get? b = some o → o.data = .dict es ep → H b = none := fun {b o es ep} e d => by
      cases q : H b with
      | none => rfl
      | some u =>
        have e' : b = a := hA b (by rw [q]; simp)
        subst e'
        rw [ha] at e; cases e
        have d' : Data.seq vs.toArray _ = Data.dict es ep := d
        cases d'
    have nsK : ∀ {b : Addr} {m : Str → Option Value}, s₁.heap.Ns b m → (hidT s₁.heap H).Ns b m := fun {b m} ⟨o, es, ep, e, d, r⟩ => ⟨o, es, ep, base_of e (noA e d), d, r⟩
    have hKb : K.In (hidT s₁.heap H) := fun b o e => base_of (KX b o e) (by
      cases q : H b with
      | none => rfl
      | some u =>
        have e' : b = a := hA b (by rw [q]; simp)
        subst e'
        rw [hK (by rw [q]; simp)] at e; cases e)
    have hM : Mod K mg (hidT s₁.heap H) := ⟨hKb, nsK hns, ⟨mb, nsK hb, hbb⟩, let ⟨mc, h1, h2⟩ := hlim; ⟨mc, nsK h1, h2⟩⟩
    have e0 : Env0 P w K mg (hidT s₁.heap H) callerA [] s₁ H := ⟨rfl, hM, fun b o e => of_hidT e, Nat.le_of_eq (hidT_size _ _), trivial, fun b hb => absurd (show b ∈ ([] : List Addr) from hb) (by simp), hok, .of_eq hg⟩
    refine codeAny_mono ((F _ hKb (nsK hns)).run callerA [] s₁ H ⟨[.ref a], []⟩ [.ref a] [.ref a] _ _ hr e0 (hbind s₁ (.ref a)) (.cons rfl .nil) (hsp H hO hS)) fun r s' h => ?_
    cases r with
    | error e => exact (hCX H e s' h).elim
    | ok fl =>
      cases fl with
      | next => exact False.elim h
      | brk => exact False.elim h
      | cont => exact False.elim h
      | ret u =>
        obtain ⟨v, H', os, bare, un, hok', r', q⟩ := h
        have q' : v = .bl true := q
        subst q'
        obtain rfl : u = Value.bool true := r'
        refine ⟨rfl, OldK.of_keep fun b o e => ?_, os, bare⟩
        cases q : H b with
        | none => exact un.keep b o e q (by intro z; exact absurd (show b ∈ ([] : List Addr) from z) (by simp)) (by simp)
        | some u =>
          rcases hO b with z | ⟨ob, xs, z⟩
          · rw [q] at z; cases z
          · have z2 := un.frzs b ob _ z
            obtain ⟨e1, _⟩ := hok b _ z
            obtain ⟨e2, _⟩ := hok' b _ z2
            rw [e] at e1; cases e1
            exact e2
  cases hk : K.lookup a with
  | some o =>
    -- the script is one of the module's own objects
    have e := KX a o hk
    rw [ha] at e
    cases e
    refine core (fun _ => none) (fun _ => .inl rfl) (.inr ⟨_, vs.toArray, _, hk, rfl, rfl, rfl, by rw [List.size_toArray, lenV]; exact hl, by simpa using rv⟩) (fun b u z => by have z' : (none : Option HO) = some u := z; cases z') (fun b z => absurd rfl z) fun z => absurd rfl z
  | none =>
    refine core (fun b => if b = a then some (.frz { cls := .type "list", data := .seq vs.toArray } (.lst (ns.map V.int))) else none) (fun b => ?_) (.inl (.inr ⟨{ cls := .type "list", data := .seq vs.toArray }, if_pos rfl⟩)) (fun b u z => ?_) (fun b z => ?_) fun _ => hk
    · by_cases hb : b = a
      · exact .inr ⟨_, _, if_pos hb⟩
      · exact .inl (if_neg hb)
    · by_cases hb : b = a
      · have z' := (if_pos hb).symm.trans z
        cases z'
        subst hb
        exact ⟨ha, by rw [List.length_map]; exact hl, vs, _, rv, ha⟩
      · have z' := (if_neg hb).symm.trans z
        cases z'
    · by_cases hb : b = a
      · exact hb
      · exact absurd (if_neg hb) z
end L2

namespace L2
open PySem PySem.Spec PyProof.Rows

abbrev KOf {K : PySem.W.Frag} {h : Heap} (_ : K.In h) : PySem.W.Frag := K

/-- the goal that k_head leaves (case hc), from the law's promise. F gives the function object fd (K's own) once, then the promise over every base -/
theorem walk_of {l : PySem.W.OpenLaw} {n k : Nat} {q : Program} {loose : List Str} {XP : (Str → Option Value) → Heap → Prop} {YP : World → Heap → Prop} {d : DefRec} {K : Params → PySem.W.Frag} {CX : World → CXT} {sp : World → Sp} {x : Str}
    (hn : l.most = some n) (hn2 : n ≤ sizeLine) (hdf : d.params.defaults = []) (hr : Room k callerA)
    (hY : ∀ (w : World) (h : Heap), YP w h → (K w.params).In h)
    (F : ∀ (w : World) (mg : Str → Option Value) (fa : Addr) (h : Heap), (K w.params).In h → h.Ns mainGlobals mg → mg d.name = some (.ref fa) →
      ∃ fd : FuncData, (∀ (s : Shared) (u : Value), BindsTo s fd ⟨[u], []⟩ [(x, u)]) ∧
        ∀ base : Heap, (K w.params).In base → base.Ns mainGlobals mg → FnOk l.prog w (K w.params) mg base (CX w) k fa fd [x] (sp w))
    (hsp : ∀ (w : World) (H : Hp) (a : Addr) (ns : List Int), ns.length ≤ n → Only H → SqL (K w.params) H a (ns.map V.int) → sp w [.ref a] H (fun v _ => v = .bl true) fun _ _ _ => False)
    (hCX : ∀ (w : World) (H : Hp) (s : Shared) (e : Value) (s' : Shared), CX w [] H s (fun _ _ _ => False) e s' → False) :
    PySem.W.WalkO q loose XP YP l.row.toRowW d [] (fun f vs => PySem.call f vs) := by
  refine Att.attach_call hn hdf fun w s₀ s₁ mg mb fa o pm cd doc a vs ns G Y ho hd hcd hmg hobj hints hlen hg => ?_
  have KX := hY w _ Y
  obtain ⟨fd, hb, hF⟩ := F w mg fa _ KX G.T.g hmg
  exact law_call KX G.T.g G.T.b G.T.builtins G.T.nolimit hg hobj hints (Nat.le_trans hlen hn2) hr hF hb (fun H hO hS => hsp w H a ns hlen hO hS) fun H e s' => hCX w H s₁ e s'
end L2

/- THE LAST THEOREM (shape; LID, My.* are yours):
   My.Adr: a structure of the addresses that your layer names (classes, functions); My.Txt K t: a structure (Prop) of the equations over K;
   My.txt_mk : {K} {implicit addresses ..} (e1 : nsIn K mainGlobals "law" = some (some (.ref f))) (e2 : K.lookup f = some ⟨oc, od, .func (fnOf "law" "law" params body scope dV kV doc pm an cdv ct), sl⟩) (e3 : codeIn K cdv "law" = true) .. : ∃ t, My.Txt K t

set_option maxRecDepth 100000 in
set_option maxHeartbeats 0 in
theorem PySem.Challenge.cw_LID_holds : PySem.Challenge.rw_LID.Holds := by
  w_on; o_law; k_head; (case hw => w_witness2)
  k_fill
  refine L2.walk_of (l := PySem.Challenge.rw_LID) (n := 63) (k := 40) (x := "script") (CX := fun w => ..) (sp := fun _ => My.sp_law) rfl (by decide) rfl ⟨rfl, by decide, by decide⟩ (fun w h Y => PySem.W.kIn_of Y) ?F ?S ?C
  case F =>
    intro w mg fa h KX G hmg
    have T : ∃ t, My.Txt (L2.KOf KX) t := by
      dsimp only [L2.KOf]                          -- K must stand as «<heap const> w.params» for k_is
      refine' My.txt_mk ?e1 ?e2 ?e3 ..
      (case e1 => PySem.W.k_is)                    -- in the order: a name -> its address -> its object -> its parts
      (case e2 => PySem.W.k_is)
      ..
    obtain ⟨t, T⟩ := T
    have e0 := hmg.symm.trans (PySem.W.mg_of KX G T.law)
    cases e0                                       -- fa is the law's own address
    exact ⟨_, fun s u => .of_eq rfl, fun base kb nb => My.law_fn T kb nb⟩     -- if «.of_eq rfl» comes too early: refine' ⟨_, ?b, fun base kb nb => My.law_fn T kb nb⟩; exact fun s u => .of_eq rfl
  case S => exact fun w H a ns hl hO hS => ..
  case C => exact ..
(the tactic k_is has no namespace: write k_is) -/

/-! SHORT WORDS over the layer: a def of the text, its body, what a loop and a test want. -/
namespace L2
open PySem PySem.Spec PyProof.Rows

/-! ### the text by places -/
def defArgs (s : Stmt) : Arguments := match s with
  | .FunctionDef _ a _ _ _ _ _ _ _ _ => a
  | _ => { posonlyargs := [], args := [], vararg := none, kwonlyargs := [], kw_defaults := [], kwarg := none, defaults := [] }
def defBody (s : Stmt) : List Stmt := match s with
  | .FunctionDef _ _ b _ _ _ _ _ _ _ => b
  | _ => []
def defScope (s : Stmt) : Scope := match s with
  | .FunctionDef _ _ _ _ _ _ sc _ _ _ => sc
  | _ => { kind := .function, names := [], isGenerator := false, isCoroutine := false }

/-! ### no exception leaves a def -/
abbrev CX0 : CXT := fun _ _ _ _ _ _ => False
abbrev E0 : XK := fun _ _ _ => False
theorem pass0 {X : Cx} : Passes CX0 X E0 := fun _ _ _ _ _ _ _ h => h.elim

/-! ### a def (or method) of the text as it stands behind the top -/
structure Fun (K : PySem.W.Frag) (x qual : Str) (st : Stmt) (f : Addr) (fd : FuncData) : Prop where
  ex : ∃ (oc : Value) (od : Option Addr) (kV doc pm : Value) (an : Option Addr) (cdv ct : Value) (osl : Array (Option Value)),
    fd = PySem.W.fnOf x qual (defArgs st) (defBody st) (defScope st) .none kV doc pm an cdv ct ∧ K.lookup f = some ⟨oc, od, .func fd, osl⟩ ∧ PySem.W.codeIn K cdv qual = true
  kp : PySem.W.keepIn K (.ref f) = true
section
variable {P : Program} {w : World} {K : PySem.W.Frag} {mg : Str → Option Value} {base : Heap}
/-- THE RULE for a def: its body as a term of rules, and the reading of that term -/
theorem Fun.ok {x qual : Str} {st : Stmt} {f : Addr} {fd : FuncData} {N ps : List Str} {k : Nat} {sp : Sp} (F : Fun K x qual st f fd) (S : FnScope N ps (defScope st)) (len : ∀ vs H Q E, sp vs H Q E → vs.length = ps.length)
    (hbody : ∀ (cdv : Value) (A : Around) (outer : List Env) (s : Shared) (H : Hp) (vs : List V) (Q : VK) (E : XK), Room k (A.deeper (envOfC qual (defScope st) s.heap.objs.size f cdv)) → sp vs H Q E →
      ∃ t, PSs (cxOf CX0 P w K mg base N qual (defScope st) f cdv A outer s H E).nox (defBody st) t ∧ t { nx := fun _ H' => Q .non H', rt := Q } (start N vs) H) : FnOk P w K mg base CX0 (k + 1) f fd ps sp := by
  obtain ⟨oc, od, kV, doc, pm, an, cdv, ct, osl, rfl, lk, hcd⟩ := F.ex
  refine fn_of lk hcd S len fun A outer s H vs Q E hr hsp => ?_
  obtain ⟨t, h, q⟩ := hbody cdv A outer s H vs Q E hr hsp
  exact ⟨t, h.nox, q⟩
/-- how its arguments bind (no defaults): h is «fun _ _ _ _ _ _ us hl => match us, hl with | [_, _], _ => rfl», one _ a parameter -/
theorem Fun.binds {x qual : Str} {st : Stmt} {f : Addr} {fd : FuncData} {ps : List Str} (F : Fun K x qual st f fd)
    (h : ∀ (kV doc pm : Value) (an : Option Addr) (cdv ct : Value) (us : List Value), us.length = ps.length → bindArgs (PySem.W.fnOf x qual (defArgs st) (defBody st) (defScope st) .none kV doc pm an cdv ct) ⟨us, []⟩ = pure (ps.zip us)) : Binds K fd ps [] := by
  obtain ⟨oc, od, kV, doc, pm, an, cdv, ct, osl, rfl, lk, hcd⟩ := F.ex
  exact .all (h kV doc pm an cdv ct)
theorem fun_mk {x qual : Str} {st : Stmt} {f : Addr} {oc : Value} {od an : Option Addr} {osl : Array (Option Value)} {kV doc pm cdv ct : Value} (l : K.lookup f = some ⟨oc, od, .func (PySem.W.fnOf x qual (defArgs st) (defBody st) (defScope st) .none kV doc pm an cdv ct), osl⟩)
    (c : PySem.W.codeIn K cdv qual = true) (k : PySem.W.keepIn K (.ref f) = true) : Fun K x qual st f (PySem.W.fnOf x qual (defArgs st) (defBody st) (defScope st) .none kV doc pm an cdv ct) := ⟨⟨oc, od, kV, doc, pm, an, cdv, ct, osl, rfl, l, c⟩, k⟩
end
theorem hu_of {A : Around} {k : Nat} (hr : Room k A) : A.units + 1 < cLine := Nat.lt_of_le_of_lt (Nat.add_le_add_left (by decide : 1 ≤ 64) _) hr.units
/-! ### expressions in short: the name that stands in the i-th slot -/
section
variable {X : Cx}
theorem pv (i : Nat) {x : Str} {pos : Pos} (hN : X.N[i]? = some x := by rfl) (hv : Vis X.env.scope x := by first | exact Or.inl rfl | exact Or.inr (Or.inl rfl) | exact Or.inr (Or.inr rfl)) (hd : (x == ("__debug__" : Str)) = false := by decide)
    (hcd : (x == ("__classdict__" : Str)) = false := by decide) : PE X (.Name x pos) (tVar i) := pe_var hN hv hd hcd
/-- len of a dict -/
theorem call_lenD : CallR X (.builtin "len") (fun xs H Q => ∃ a kvs, xs = [V.ref a] ∧ H a = some (.dK kvs) ∧ Q (.int kvs.length) H) := by
  intro pins s σ H xs us Q I r h
  obtain ⟨a, kvs, rfl, ha, q⟩ := h
  obtain ⟨u, rfl, ru⟩ := vals1 r
  cases ru
  exact d_len I (.inl ha) fun t s' I' => ⟨.int kvs.length, H, I', ⟨t, rfl⟩, q⟩
end

/-! ### tests -/
theorem iteF {A B : Prop} (h : B) : if false = true then A else B := by
  rw [if_neg Bool.false_ne_true]
  exact h
theorem iteT {A B : Prop} (h : A) : if true = true then A else B := by
  rw [if_pos rfl]
  exact h
/-! ### heaps -/
/-- all that was tracked is as it was -/
def Same (H H' : Hp) : Prop := ∀ b o, H b = some o → H' b = some o
theorem Same.refl (H : Hp) : Same H H := fun _ _ h => h
theorem Same.trans {H H1 H2 : Hp} (a : Same H H1) (b : Same H1 H2) : Same H H2 := fun c o h => b c o (a c o h)
theorem Same.free {H H' : Hp} (e : Same H H') {l : Addr} (h : H' l = Option.none) : H l = Option.none := by
  cases q : H l with
  | none => rfl
  | some o =>
    rw [e l o q] at h
    cases h
theorem Same.seq {K : PySem.W.Frag} {H H' : Hp} {a : Addr} {xs : List V} (e : Same H H') (h : SqL K H a xs) : SqL K H' a xs := by
  rcases h with (h | ⟨o, h⟩) | h
  · exact .inl (.inl (e _ _ h))
  · exact .inl (.inr ⟨o, e _ _ h⟩)
  · exact .inr h

/-! ### a dict's pairs: keys that differ -/
section
variable {κ : Type} [DecidableEq κ]
end
/-! ### lists -/
/-- a new instance and its __init__ leave all that was tracked as it was -/
theorem Same.made {H H1 : Hp} {x dx C : Addr} (nx : H x = Option.none) (nd : H dx = Option.none) (k : ∀ b o, (upd (upd H dx (.own x)) x (.ins C dx [])) b = some o → b ≠ x → H1 b = some o) : Same H H1 := fun b o e =>
  k b o (by rw [upd_ne (ne_of_none e nx), upd_ne (ne_of_none e nd)]; exact e) (ne_of_none e nx)
end L2

/-! generators are never lost: the table of generators only grows -/
namespace M
open PySem PySem.Spec PyProof.Rows L2
theorem runs_gens {M : Model} {Γ : PySem.Ctx} {p : Pos} {t : Sem Fin} {fs : List Frame} {s s' : Shared} {e : End} (h : Runs M Γ p t fs s e s') : s.gens.size ≤ s'.gens.size := by
  induction h <;> (try simp only [Shared.setGen, Array.set!_eq_setIfInBounds, Array.size_setIfInBounds, Array.size_push] at *) <;> omega
theorem setGen_size (s : Shared) (g : Nat) (x : GenState) : (s.setGen g x).gens.size = s.gens.size := by
  simp only [Shared.setGen, Array.set!_eq_setIfInBounds, Array.size_setIfInBounds]
theorem wakes_gens {M : Model} {Γ : PySem.Ctx} {p : Pos} {g : Nat} {r : Resume} {s s' : Shared} {res : GenResult} (h : Wakes M Γ p g r s res s') : s.gens.size ≤ s'.gens.size := by
  unfold Wakes at h
  split at h
  · exact h.elim
  · split at h
    · obtain ⟨e1, s1, hr, _, _, rfl⟩ := h
      have z := runs_gens hr
      rw [setGen_size] at z ⊢
      exact z
    · rw [h.2]; first | exact Nat.le_refl _ | (rw [setGen_size]; exact Nat.le_refl _)
    · rw [h.2]; first | exact Nat.le_refl _ | (rw [setGen_size]; exact Nat.le_refl _)
  · obtain ⟨e1, s1, hr, _, _, rfl⟩ := h
    have z := runs_gens hr
    rw [setGen_size] at z ⊢
    exact z
  · rw [h.2]; first | exact Nat.le_refl _ | (rw [setGen_size]; exact Nat.le_refl _)
  · rw [h.2]; first | exact Nat.le_refl _ | (rw [setGen_size]; exact Nat.le_refl _)
theorem wp_gens {α : Type} (M : Model) (Γ : PySem.Ctx) (n : Nat) (t : Sem α) : ∀ (Q : α → Pos → Shared → Prop) (E : Value → Pos → Shared → Prop) (p : Pos) (s : Shared), n ≤ s.gens.size → Sem.wp M Γ t Q E p s →
    Sem.wp M Γ t (fun a p' s' => n ≤ s'.gens.size ∧ Q a p' s') (fun e p' s' => n ≤ s'.gens.size ∧ E e p' s') p s := by
  induction t with
  | pure a => exact fun Q E p s g z => ⟨g, z⟩
  | raise e => exact fun Q E p s g z => ⟨g, z⟩
  | unsupported _ => exact fun Q E p s _ z => z
  | finish _ => exact fun Q E p s _ z => z
  | rule _ k ih => exact fun Q E p s g z => ih () Q E p s g z
  | «at» p' k ih => exact fun Q E p s g z => ih () Q E p' s g z
  | load a _ k ih => exact fun Q E p s g ⟨o, ho, z⟩ => ⟨o, ho, ih o Q E p s g z⟩
  | update a _ f k ih => exact fun Q E p s g z => ⟨z.1, ih () Q E p _ g z.2⟩
  | loadIfAlive a k ih => exact fun Q E p s g z => ih _ Q E p s g z
  | point _ k ih => exact fun Q E p s g z => ih () Q E p s g z
  | register _ _ => exact fun Q E p s _ z => z
  | alloc o k ih => exact fun Q E p s g z => ih _ Q E p _ g z
  | fresh k ih => exact fun Q E p s g z => ih _ Q E p _ g z
  | ask k ih => exact fun Q E p s g z => ih _ Q E p s g z
  | choose src m k ih => exact fun Q E p s g z => ⟨z.1, ih _ Q E p _ g z.2⟩
  | os q _ k ih => exact fun Q E p s g z => ih _ Q E p _ g z
  | call c hd _ _ k ih => exact fun Q E p s g ⟨r, s', hr, z⟩ => ⟨r, s', hr, ih r Q E p s' (Nat.le_trans g (runs_gens hr)) z⟩
  | handled own k ih => exact fun Q E p s g z => ih _ Q E p s g z
  | genState g k ih => exact fun Q E p s g ⟨st, hs, z⟩ => ⟨st, hs, ih _ Q E p s g z⟩
  | newGen c k ih => exact fun Q E p s g z => ih _ Q E p _ (by show n ≤ (s.gens.push _).size; rw [Array.size_push]; omega) z
  | resume g r _ k ih => exact fun Q E p s g ⟨res, s', hw, z⟩ => ⟨res, s', hw, ih res Q E p s' (Nat.le_trans g (wakes_gens hw)) z⟩
  | yield _ _ _ _ => exact fun Q E p s _ z => z
  | stack k ih => exact fun Q E p s g z => ih _ Q E p s g z
  | fork _ _ => exact fun Q E p s _ z => z
  | thread k ih => exact fun Q E p s g z => ih _ Q E p s g z
  | await _ _ _ _ _ => exact fun Q E p s _ z => z
theorem with_gens {α : Type} {M : Model} {A : Around} {s : Shared} {t : Sem α} {Q : α → Shared → Prop} {E : Value → Shared → Prop} {n : Nat} (hn : n ≤ s.gens.size) (h : wpAny M A t Q E s) :
    wpAny M A t (fun a s' => n ≤ s'.gens.size ∧ Q a s') (fun e s' => n ≤ s'.gens.size ∧ E e s') s := fun Γ p hΓ => wp_gens M Γ n t _ _ p s hn (h Γ p hΓ)

/-- the code object of a generator: found in the table, or laid and added to it -/
theorem genexpr_code {M : Model} {A : Around} {E : Value → Shared → Prop} {s : Shared} {env : Env} {c P : Addr} {ps : Array Value} {pos : Pos} {qualname : Str} {scope : Scope} {Q : Value → Shared → Prop} (hc : env.code = .ref c) (hd : PySem.W.CodeHd s.heap c P)
    (hp : s.heap.get? P = some (PySem.W.tabObj ps)) (ht : TriplesOk ps.toList)
    (hQ : ∀ code h' tk more, Heap.ExtBut P s.heap h' → h'.get? P = some (PySem.W.tabObj (ps ++ more)) → TriplesOk (ps ++ more).toList → Q code { s with heap := h', toks := tk }) :
    wpAny M A (genexprCode env pos qualname scope) Q E s := by
  obtain ⟨o, vs, file, tf, flags, tg, inF, text, tt, op, ho, hd, h11, h2, h7, h9, h10, hop, hpd, htr, hne⟩ := hd.code hp ht
  rw [hp] at hop
  cases hop
  unfold genexprCode codeAt
  rw [hc, if_neg (fun z => nomatch z)]
  refine wpAny_bind (wpAny_fieldsOf ho hd ?_)
  rw [h11]
  refine wpAny_bind (wpAny_fieldsOf hp rfl ?_)
  rcases hnf : codeAmong pos ps.toList with _ | cv
  · -- it is new: three things behind the table's
    rw [h2, h7, h9, h10]
    refine wpAny_bind (wpAny_newCode fun c' P' h' tk hk _ _ _ _ => ?_)
    have kept := hk _ _ hp
    refine wpAny_bind (wpAny_updateFieldsOfTheText kept rfl ?_)
    have grown : Obj.mapFields (fun vs => if (codeAmong pos vs.toList).isSome = true then vs else vs ++ #[rawInt pos.line, rawInt pos.col, .ref c']) (PySem.W.tabObj ps) = PySem.W.tabObj (ps ++ #[rawInt pos.line, rawInt pos.col, .ref c']) := by
      simp [Obj.mapFields, hnf]
    have now := Heap.get?_update_self (h := h') (Obj.mapFields fun vs => if (codeAmong pos vs.toList).isSome = true then vs else vs ++ #[rawInt pos.line, rawInt pos.col, .ref c']) kept (by rw [grown]; rfl)
    rw [grown] at now
    refine wpAny_bind (wpAny_fieldsOf now rfl ?_)
    rw [Array.toList_append, codeAmong_snoc _ ht hnf]
    refine wpAny_pure (hQ _ _ _ _ (fun b o' hb e => (Heap.SameBut.update ..).extBut b o' hb (hk b o' e)) now ?_)
    rw [Array.toList_append]
    exact TriplesOk_snoc _ _ _ _ ht
  · exact wpAny_pure (hQ cv s.heap s.toks #[] (fun b o _ e => e) (by rw [Array.append_empty]; exact hp) (by rw [Array.append_empty]; exact ht))
end M

namespace M
open PySem PySem.Spec PyProof.Rows L2

/-- the context of a generator's block: s, H ahead of its frame; A: around its segments -/
abbrev gblk (X : Cx) (s : Shared) (H : Hp) (A : Around) (genv : Env) (fp : List Addr) : Cx := { X with s_0 := s, H_0 := H, A := A, env := genv, outer := X.stack, stack := genv :: X.stack, ex := fp, fn := fun _ => false, pn := [], xe := fun _ _ => False }
section
variable {X : Cx} {pins : List (Addr × Obj)} {σ : L2.St} {H : Hp} {s : Shared}
theorem gen_start {scope : Scope} {own : List (Str × Nat)} {fp : List Addr} {A : Around} {code : Value} {h' : Heap} {m : Str → Option Value} {go : Obj} {g' : Array GenState} {t' : Nat} (I : Inv X pins σ H s) (ok : BlkOk X.N X.env.scope scope own) (hN : X.N.Nodup) (hfp : ∀ b ∈ fp, FpOk X pins H b ∧ b < s.heap.objs.size)
    (nc : ∀ y ∈ scope.names, y.2 ≠ .cell) (hA : A.handled = none) (hF : A.frames = some (genEnv scope (cloFrom X.env.cells scope.names []) s.heap.objs.size code builtinsNs X.env :: X.stack))
    (ns : h'.Ns s.heap.objs.size m) (sb : Heap.SameBut s.heap.objs.size (s.heap.push { cls := .type "frame", data := .dict #[] }) h') (hgo : ∀ v, go.data ≠ .cell v) (hcls : go.isFreed = false) (hb : AllBare g') :
    Inv (gblk X s H A (genEnv scope (cloFrom X.env.cells scope.names []) s.heap.objs.size code builtinsNs X.env) fp) [(h'.objs.size, go)] (wipe σ (own.map (·.2))) H { s with heap := h'.push go, gens := g', toks := t' } := by
  have hfree : ∀ y ∈ scope.names, y.2 = .free → ∃ c, X.env.cells.lookup y.1 = some c := fun y hy e => by
    rcases ok.free y hy e with k | k
    · exact I.ok.has _ (.inl k)
    · exact I.ok.has _ (.inr k)
  generalize hgv : genEnv scope (cloFrom X.env.cells scope.names []) s.heap.objs.size code builtinsNs X.env = genv at hF ⊢
  have kp : ∀ b o, s.heap.get? b = some o → (h'.push go).get? b = some o := fun b o e => Heap.get?_push_of_some _ (sb.extBut b o (Nat.ne_of_lt (Heap.lt_size e)) (Heap.get?_push_of_some _ e))
  have hsz : h'.objs.size = s.heap.objs.size + 1 := by rw [sb.1, Heap.size_push]
  have hL : genv.locals = s.heap.objs.size := by rw [← hgv]; rfl
  have hcl : genv.cells = cloFrom X.env.cells scope.names [] := by rw [← hgv]; rfl
  have hsc : genv.scope = scope := by rw [← hgv]; rfl
  have hfr : genv.frame = some genv.locals := by rw [← hgv]; rfl
  have cm : ∀ {y c}, (y, c) ∈ cloFrom X.env.cells scope.names [] → X.env.cells.lookup y = some c ∧ c < s.heap.objs.size := fun {y c} hm => by
    rcases cloFrom_mem hm with hm | ⟨h1, rfl⟩
    · cases hm
    · obtain ⟨c, hc⟩ := hfree _ h1 rfl
      rw [hc]
      obtain ⟨w, z⟩ := I.cell _ _ hc
      exact ⟨rfl, z.lt⟩
  have mem : ∀ {y c}, genv.cells.lookup y = some c → X.env.cells.lookup y = some c ∧ c < s.heap.objs.size := fun {y c} e => by
    rw [hcl] at e
    exact cm (PySem.mem_of_lookup e)
  have look : ∀ {y}, scope.names.lookup y = some .free → ∃ c, genv.cells.lookup y = some c ∧ X.env.cells.lookup y = some c := fun {y} hl => by
    have hy : (y, NameKind.free) ∈ scope.names := PySem.mem_of_lookup hl
    obtain ⟨c', e'⟩ := mem_lookup (cloFrom_has (cells := X.env.cells) (acc := []) hy)
    rw [← hcl] at e'
    exact ⟨c', e', (mem e').1⟩
  have stk : ∀ b ∈ frs X.stack, b < s.heap.objs.size := fun b hb => by
    obtain ⟨_, o, ho, _⟩ := I.stack.mem hb
    exact Heap.lt_size ho
  have okB : (gblk X s H A genv fp).Ok := by
    refine ⟨I.ok.mod, by show genv.scope.kind = _; rw [hsc]; exact ok.kind, by show genv.globals = _; rw [← hgv]; exact I.ok.glob, by show genv.builtins = _; rw [← hgv]; rfl, by show s.heap.objs.size ≤ genv.locals; rw [hL]; exact Nat.le_refl _,
      fun y z c e1 e2 => I.ok.inj y z c (mem e1).1 (mem e2).1, fun y hy => ?_, fun y c z e => (by cases z), fun _ => hA, hF, .inr ⟨rfl, hfr⟩, fun b hb => ⟨?_, fun y c e z => ?_⟩, I.bs, Nat.le_trans I.ok.bsz I.sz, fun b o e hb => ?_, fun b hb z => ?_, I.stack, I.stkFree⟩
    · have hy : scope.names.lookup y = some .cell ∨ scope.names.lookup y = some .free := by
        have hy : genv.kindOf y = some .cell ∨ genv.kindOf y = some .free := hy
        unfold Env.kindOf at hy
        rw [hsc] at hy
        exact hy
      rcases hy with hy | hy
      · exact absurd rfl (nc _ (PySem.mem_of_lookup hy))
      · obtain ⟨c, h1, _⟩ := look hy
        exact ⟨c, h1⟩
    · show b ≠ genv.locals
      rw [hL]; exact Nat.ne_of_lt (hfp b hb).2
    · exact (hfp b hb).1.2.2.2.2.1 y c (mem e).1 z
    · rcases (hfp b hb).1.2.2.2.1 with z | z
      · exact I.ok.noex b o e z
      · exact absurd (Nat.lt_of_lt_of_le (Heap.lt_size e) (Nat.le_trans I.ok.bsz z)) (Nat.lt_irrefl _)
    · rcases List.mem_cons.mp (I.stkSub b z) with z | z
      · exact (hfp b hb).1.2.1 z
      · exact (hfp b hb).1.2.2.1 z
  refine ⟨okB, rfl, hb, Un.kept kp, ⟨m, ?_, fun i y av e1 e2 e3 => ?_⟩, fun y c e => ?_, ?_, fun y c e => I.freeC y c (mem e).1, fun p hp => ?_, I.hok.kept kp, by rw [wipe_length]; exact I.len⟩
  · show Heap.Ns _ genv.locals _
    rw [hL]
    exact ns.push _
  · obtain ⟨e2, hne⟩ := wipe_some e2
    have hfr : scope.names.lookup y = some .free := by
      have key : ∀ k, scope.names.lookup y = some k → k = .local ∨ k = .cell → False := fun k e hh => by
        rcases ok.own _ (PySem.mem_of_lookup e) hh with e' | e'
        · obtain ⟨p, hp, hpy⟩ := List.mem_map.mp e'
          have e3 := ok.ix p hp
          have : p.1 = y := hpy
          rw [this] at e3
          exact hne (List.mem_map.mpr ⟨p, hp, nodup_ix hN e3 e1⟩)
        · exact e' (List.mem_of_getElem? e1)
      have e3 : Vis genv.scope y := e3
      rw [hsc] at e3
      rcases e3 with e3 | e3 | e3
      · exact (key _ e3 (.inl rfl)).elim
      · exact (key _ e3 (.inr rfl)).elim
      · exact e3
    obtain ⟨mm, hn, hl⟩ := I.loc
    have hvis : Vis X.env.scope y := (ok.free _ (PySem.mem_of_lookup hfr) rfl).elim (fun k => .inr (.inl k)) (fun k => .inr (.inr k))
    obtain ⟨w, r, q⟩ := hl i y av e1 e2 hvis
    refine ⟨w, r, .inr ⟨.inr ?_, ?_⟩⟩
    · show genv.kindOf y = _
      unfold Env.kindOf
      rw [hsc]
      exact hfr
    obtain ⟨c, h1, h2⟩ := look hfr
    rcases q with ⟨k, _⟩ | ⟨_, c', e', z⟩
    · have k : X.env.scope.names.lookup y = some .local := k
      rcases ok.free _ (PySem.mem_of_lookup hfr) rfl with k' | k' <;> rw [show X.env.scope.names.lookup y = _ from k'] at k <;> cases k
    · rw [h2] at e'; cases e'
      exact ⟨c, h1, z.keeps kp⟩
  · obtain ⟨w, z⟩ := I.cell y c (mem e).1
    exact ⟨w, z.keeps kp⟩
  · show H genv.locals = none
    rw [hL]; exact I.hok.fresh (Nat.le_refl _)
  · obtain rfl : p = (h'.objs.size, go) := by simpa using hp
    refine ⟨Heap.get?_push_size _ hcls, I.hok.fresh (by rw [hsz]; exact Nat.le_succ _), by show h'.objs.size ≠ genv.locals; rw [hL, hsz]; exact Nat.succ_ne_self _, fun z => ?_, hgo⟩
    have z2 : h'.objs.size < s.heap.objs.size := stk _ z
    omega
end
end M

namespace M
open PySem PySem.Spec PyProof.Rows L2

theorem thnG {α : Type} {t : Sem α} {Q Q' : α → Shared → Prop} {M : Model} {A : Around} {E : Value → Shared → Prop} {s : Shared} {n : Nat} (hn : n ≤ s.gens.size) (h : wpAny M A t Q (fun _ _ => False) s) (hQ : ∀ a s', n ≤ s'.gens.size → Q a s' → Q' a s') : wpAny M A t Q' E s :=
  wpAny_mono (with_gens hn h) (fun a s' z => hQ a s' z.1 z.2) fun _ _ z => z.2.elim

/-- at the head of the block's loop -/
def LoopInv (G : Cx) (pin : List (Addr × Obj)) (σ0 : L2.St) (fp : List Addr) (tn : Nat → Heap → Prop) (W : Nat → Nat → Hp → Prop) (m : Nat) (s : Shared) : Prop :=
  ∃ i H', Inv G pin σ0 H' s ∧ tn i s.heap ∧ (∀ b ∈ fp, H' b = none) ∧ W i m H'
def EndInv (G : Cx) (pin : List (Addr × Obj)) (Q : Hp → Prop) (s : Shared) : Prop := ∃ σ' H', Inv G pin σ' H' s ∧ Q H'
def genR (G : Cx) (pin : List (Addr × Obj)) (Q : Hp → Prop) : Nat → Shared → Shared → Prop := fun _ s₀ s₁ => s₀.gens.size ≤ s₁.gens.size ∧ EndInv G pin Q s₁
def genY (G : Cx) (pin : List (Addr × Obj)) (σ0 : L2.St) (fp : List Addr) (tn : Nat → Heap → Prop) (W : Nat → Nat → Hp → Prop) (isAll : Bool) (Q : Hp → Prop) : Protocol := fun N s₀ v s kap =>
  s₀.gens.size ≤ s.gens.size ∧ ∃ c, v = .bool c ∧ if c = isAll then ∃ m, m < N ∧ LoopInv G pin σ0 fp tn W m s ∧ ∀ s'', LoopInv G pin σ0 fp tn W m s'' → kap (.send .none) s'' else EndInv G pin Q s

section
variable {G : Cx} {A0 : Around} {pin : List (Addr × Obj)} {σ0 : L2.St} {fp : List Addr} {tn : Nat → Heap → Prop} {W : Nat → Nat → Hp → Prop} {isAll : Bool} {Qe Qs : Hp → Prop} {J : It} {it : Addr} {elt tg iter : Expr} {ifs : List Expr} {scope : Scope} {pos : Pos} {g : TG} {tt : TT} {te : TE} {vs : List Nat}
theorem seg_loop (hA : G.A = A0.over (.compLoop (.GeneratorExp elt [⟨tg, iter, ifs, 0⟩] scope pos) 0 (.ref it) .none G.env) []) (hc : G.calm = true) (co : G.env.scope.isCoroutine = false) (hxe : G.xe = fun _ _ => False) (T : Turn G.prog G.w G.K tg J fp it tn)
    (pg : PG G tg g) (pt : PTs G ifs tt) (pe : PE G elt te) (stat : ∀ (σ' : L2.St) (H' : Hp) (s' : Shared), Inv G pin σ' H' s' → (∀ b ∈ fp, H' b = none) → ∀ b ∈ fp, FpOk G pin H' b)
    (turn : ∀ i m H, W i m H → (J.stop i H ∧ Qe H) ∨ (J.go i H ∧ ∃ Nx : Hp → Prop, (∀ H', Nx H' → ∃ m', m' < m ∧ W (i + 1) m' H') ∧ ∀ x H', J.yld i H x H' → g x σ0 H' fun σ2 H2 => wipe σ2 vs = σ0 ∧ tt σ2 H2 fun b H3 =>
      if b = true then te σ2 H3 fun y H4 => ∃ c, y = .bl c ∧ if c = isAll then Nx H4 else Qs H4 else Nx H3)) :
    ∀ (m : Nat) (s₀ s : Shared) (N : Nat), m < N → LoopInv G pin σ0 fp tn W m s → s₀.gens.size ≤ s.gens.size →
      Seg (model G.prog G.w) A0 (fun n s₀ r s₁ => r = .ok .next ∧ genR G pin Qe n s₀ s₁) (genY G pin σ0 fp tn W isAll Qs) N s₀
        (.compLoop (.GeneratorExp elt [⟨tg, iter, ifs, 0⟩] scope pos) 0 (.ref it) .none G.env)
        ((model G.prog G.w).den (.compLoop (.GeneratorExp elt [⟨tg, iter, ifs, 0⟩] scope pos) 0 (.ref it) .none G.env)) [] s := by
  intro m
  induction m using Nat.strongRecOn with
  | ind m ih =>
    rintro s₀ s N hN ⟨i, H, I, st, nf, w⟩ hg
    show Seg _ A0 _ _ _ s₀ _ ((compTurn (.GeneratorExp elt [⟨tg, iter, ifs, 0⟩] scope pos) 0 (.ref it) .none G.env).onRaise (leaving G.env)) [] s
    rw [compTurn_gen, Sem.onRaise_eq_wrap]
    refine seg_bind_wrap (wpAny_standAt ?_)
    rcases turn i m H w with ⟨stop, qq⟩ | ⟨go, Nx, hNx, step⟩
    · have td := T.done G rfl rfl rfl hc i pin s σ0 H (fun _ _ => False) I (stat _ _ _ I nf) st stop
      rw [hA] at td
      refine seg_bind_wrap (thnG hg td fun r s1 hg1 ⟨hr, I1⟩ => ?_)
      subst hr
      exact seg_end (.ok .next) ⟨rfl, hg1, σ0, H, I1, qq⟩
    · have ti := T.item G rfl rfl rfl hc i pin s σ0 H (fun _ _ => False) I (stat _ _ _ I nf) st go
      rw [hA] at ti
      refine seg_bind_wrap (thnG hg ti fun r s6 hg6 ⟨u, hr, h6⟩ => ?_)
      subst hr
      refine seg_bind_wrap (thnG hg6 h6 fun _ s7 hg7 ⟨x, H7, I7, r7, y7, st7, n7⟩ => ?_)
      have I7' := I7.pinned (stat _ _ _ I7 n7) (T.obj _ _ st7)
      have p1 := pg _ s7 _ H7 x u _ I7' r7 (step x H7 y7)
      rw [hA, hxe] at p1
      refine seg_bind_wrap (thnG hg7 p1 fun _ s8 hg8 ⟨σ8, H8, I8, hw8, q8⟩ => ?_)
      have p2 := pt _ s8 σ8 H8 _ I8 q8
      rw [hA, hxe] at p2
      refine seg_bind_wrap (thnG hg8 p2 fun b s9 hg9 ⟨H9, I9, q9⟩ => ?_)
      have fin : ∀ {s' : Shared} {H' : Hp}, Inv G (pin ++ pinsAt fp s7.heap) σ8 H' s' → Nx H' → ∃ m', m' < m ∧ LoopInv G pin σ0 fp tn W m' s' := fun {s' H'} I' nx => by
        obtain ⟨m', hm, w'⟩ := hNx H' nx
        have pin' : ∀ b ∈ fp, ∀ o, s7.heap.get? b = some o → s'.heap.get? b = some o ∧ H' b = none := fun b hb o e =>
          let z := I'.pin (b, o) (List.mem_append_right _ (List.mem_append_right _ (mem_pinsAt hb e)))
          ⟨z.1, z.2.1⟩
        have hl : σ0.length = σ8.length := by rw [← hw8, wipe_length]
        refine ⟨m', hm, i + 1, H', (I'.unpinned (pins := pin)).weak hl (fun j v e => ?_), T.keep _ _ _ st7 fun b hb o e => (pin' b hb o e).1, fun b hb => ?_, w'⟩
        · rw [← hw8] at e
          exact (wipe_some e).1
        · obtain ⟨o, e, _⟩ := T.obj _ _ st7 b hb
          exact (pin' b hb o e).2
      cases b with
      | false =>
        simp only [Bool.false_eq_true, if_false] at q9 ⊢
        obtain ⟨m', hm, li⟩ := fin I9 q9
        exact seg_again rfl (ih m' hm s₀ s9 N (Nat.lt_trans hm hN) li hg9)
      | true =>
        simp only [if_true] at q9 ⊢
        have hy : ∀ v, yieldOut G.env v = yieldValue v := fun v => by simp only [yieldOut, co, Bool.false_eq_true, if_false]
        simp only [hy]
        rw [Sem.bind_eq_wrap', Sem.bind_eq_wrap', Sem.wrap_wrap, Sem.wrap_wrap]
        have p3 := pe _ s9 σ8 H9 _ I9 q9
        rw [hA, hxe] at p3
        refine seg_wrap (thnG hg9 p3 fun z s10 hg10 ⟨yv, H10, I10, r10, c, hyv, q10⟩ => ?_)
        subst hyv
        obtain rfl : z = Value.bool c := r10
        obtain ⟨n, rfl⟩ : ∃ n, N = n + 1 := ⟨N - 1, by omega⟩
        refine seg_at (seg_yield rfl rfl rfl ⟨hg10, c, rfl, ?_⟩)
        by_cases hca : c = isAll
        · rw [if_pos hca] at q10 ⊢
          obtain ⟨m', hm, li⟩ := fin I10 q10
          refine ⟨m', by omega, li, fun s'' li'' => ?_⟩
          exact seg_again rfl (ih m' hm s'' s'' n (by omega) li'' (Nat.le_refl _))
        · rw [if_neg hca] at q10 ⊢
          exact ⟨σ8, H10, I10.unpinned (pins := pin), q10⟩
end
end M

namespace M
open PySem PySem.Spec PyProof.Rows L2

theorem _root_.L2.Inv.regen {X : Cx} {pins : List (Addr × Obj)} {σ : L2.St} {H : Hp} {s : Shared} {g' : Array GenState} (I : Inv X pins σ H s) (hb : AllBare g') : Inv X pins σ H { s with gens := g' } :=
  ⟨I.ok, I.os, hb, I.base, I.loc, I.cell, I.free, I.freeC, I.pin, I.hok, I.len⟩
theorem bare_set {gens : Array GenState} {g : Nat} {x : GenState} (h : AllBare gens) (hx : x.bare = true) : AllBare (gens.set! g x) := fun y hy => by
  rw [Array.set!_eq_setIfInBounds] at hy
  obtain ⟨i, hi, rfl⟩ := Array.mem_iff_getElem.mp hy
  have hi2 : i < gens.size := by rw [Array.size_setIfInBounds] at hi; exact hi
  rw [Array.getElem_setIfInBounds hi2]
  split
  · exact hx
  · exact h _ (Array.getElem_mem hi2)
theorem _root_.L2.Inv.setGen {X : Cx} {pins : List (Addr × Obj)} {σ : L2.St} {H : Hp} {s : Shared} {g : Nat} {x : GenState} (I : Inv X pins σ H s) (hx : x.bare = true) : Inv X pins σ H (s.setGen g x) := I.regen (bare_set I.bare hx)
theorem LoopInv.setGen {G : Cx} {pin : List (Addr × Obj)} {σ0 : L2.St} {fp : List Addr} {tn : Nat → Heap → Prop} {W : Nat → Nat → Hp → Prop} {m : Nat} {s : Shared} {g : Nat} {x : GenState} (l : LoopInv G pin σ0 fp tn W m s) (hx : x.bare = true) : LoopInv G pin σ0 fp tn W m (s.setGen g x) :=
  let ⟨i, H', I, st, nf, w⟩ := l; ⟨i, H', I.setGen hx, st, nf, w⟩
theorem EndInv.setGen {G : Cx} {pin : List (Addr × Obj)} {Q : Hp → Prop} {s : Shared} {g : Nat} {x : GenState} (l : EndInv G pin Q s) (hx : x.bare = true) : EndInv G pin Q (s.setGen g x) :=
  let ⟨i, H', I, q⟩ := l; ⟨i, H', I.setGen hx, q⟩
theorem EndInv.kept {G : Cx} {pin : List (Addr × Obj)} {Q : Hp → Prop} {s : Shared} {h' : Heap} (l : EndInv G pin Q s) (k : ∀ b o, s.heap.get? b = some o → h'.get? b = some o) : EndInv G pin Q { s with heap := h' } :=
  let ⟨i, H', I, q⟩ := l; ⟨i, H', I.kept (t' := s.toks) k, q⟩

section
variable {G : Cx} {A0 : Around} {pin : List (Addr × Obj)} {σ0 : L2.St} {fp : List Addr} {tn : Nat → Heap → Prop} {W : Nat → Nat → Hp → Prop} {isAll : Bool} {Qe Qs : Hp → Prop} {J : It} {it : Addr} {elt tg iter : Expr} {ifs : List Expr} {scope : Scope} {pos : Pos} {g : TG} {tt : TT} {te : TE} {vs : List Nat}
theorem seg_start (T : Turn G.prog G.w G.K tg J fp it tn) {N : Nat} {s₀ s : Shared} {i : Nat} (st : tn i s.heap)
    (loop : Seg (model G.prog G.w) A0 (fun n s₀ r s₁ => r = .ok .next ∧ genR G pin Qe n s₀ s₁) (genY G pin σ0 fp tn W isAll Qs) N s₀
        (.compLoop (.GeneratorExp elt [⟨tg, iter, ifs, 0⟩] scope pos) 0 (.ref it) .none G.env) ((model G.prog G.w).den (.compLoop (.GeneratorExp elt [⟨tg, iter, ifs, 0⟩] scope pos) 0 (.ref it) .none G.env)) [] s) :
    Seg (model G.prog G.w) A0 (fun n s₀ r s₁ => r = .ok .next ∧ genR G pin Qe n s₀ s₁) (genY G pin σ0 fp tn W isAll Qs) N s₀
        (.compStart (.GeneratorExp elt [⟨tg, iter, ifs, 0⟩] scope pos) 0 (.ref it) .none G.env) ((model G.prog G.w).den (.compStart (.GeneratorExp elt [⟨tg, iter, ifs, 0⟩] scope pos) 0 (.ref it) .none G.env)) [] s := by
  show Seg _ A0 _ _ _ s₀ _ ((compStart (.GeneratorExp elt [⟨tg, iter, ifs, 0⟩] scope pos) 0 (.ref it) .none G.env).onRaise (leaving G.env)) [] s
  unfold compStart
  rw [Sem.onRaise_eq_wrap]
  show Seg _ A0 _ _ _ s₀ _ ((ask >>= _).wrap _ _ _ _) [] s
  refine seg_bind_wrap (wpAny_askSetting ?_)
  split
  · exact seg_again rfl loop
  · first
      | exact seg_bind_wrap (wpAny_rule (seg_bind_wrap (wpAny_standAt (seg_bind_wrap (T.self _ i s _ _ st (seg_again rfl loop))))))
      | (refine seg_bind_wrap (wpAny_rule ?_); show Seg _ A0 _ _ _ s₀ _ ((standAt iter.pos >>= _).wrap _ _ _ _) [] s; exact seg_bind_wrap (wpAny_standAt (seg_bind_wrap (T.self _ i s _ _ st (seg_again rfl loop)))))

/-- the generator, ahead of a turn -/
def GenSt (G : Cx) (A0 : Around) (pin : List (Addr × Obj)) (σ0 : L2.St) (fp : List Addr) (tn : Nat → Heap → Prop) (W : Nat → Nat → Hp → Prop) (isAll : Bool) (Qe Qs : Hp → Prop) (a : Addr) (gn N : Nat) (s : Shared) : Prop :=
  s.heap.IsGen a gn ∧ ∃ gs m, s.gens[gn]? = some gs ∧ m < N ∧ LoopInv G pin σ0 fp tn W m s ∧
    ∀ s'', LoopInv G pin σ0 fp tn W m s'' → gs.Goes (model G.prog G.w) A0 (fun n s₀ r s₁ => r = .ok .next ∧ genR G pin Qe n s₀ s₁) (genY G pin σ0 fp tn W isAll Qs) N (.send .none) s''
theorem next_gen {A : Around} {a : Addr} {gn N : Nat} {go : Obj} {s : Shared} {Q : Option Value → Shared → Prop} {E : Value → Shared → Prop} (hh : A.handled = none) (hroom : A.depth < recursionLimit) (hpin : pin = [(a, go)]) (hgo : ∀ h : Heap, h.get? a = some go → h.IsGen a gn)
    (st : GenSt G A.in1 pin σ0 fp tn W isAll Qe Qs a gn N s)
    (hend : ∀ s', EndInv G pin Qe s' → Q none s') (hyes : ∀ n s', n < N → GenSt G A.in1 pin σ0 fp tn W isAll Qe Qs a gn n s' → Q (some (.bool isAll)) s') (hno : ∀ s', EndInv G pin Qs s' → Q (some (.bool (!isAll))) s') :
    wpAny (model G.prog G.w) A (pyNext (.ref a)) Q E s := by
  obtain ⟨hg, gs, m, hgs, hN, li, hgoes⟩ := st
  have hl : s.heap.NoLimit := let ⟨_, _, I, _⟩ := li; I.nolimit
  have hgl : gn < s.gens.size := by
    rcases Nat.lt_or_ge gn s.gens.size with h' | h'
    · exact h'
    · rw [Array.getElem?_eq_none h'] at hgs; cases hgs
  refine wpAny_pyNext_genexpQ (P := genR G pin Qe) hh hl hroom hg hgs (hgoes _ (li.setGen rfl)) (fun v s₁ gs' hb hv => ?_) (fun s₁ hp h' hk => ?_)
  · obtain ⟨hsz, c, rfl, hv⟩ := hv
    rw [setGen_size] at hsz
    have hgl1 : gn < s₁.gens.size := Nat.lt_of_lt_of_le hgl hsz
    by_cases hc : c = isAll
    · rw [if_pos hc] at hv
      obtain ⟨m', hm', li', kap⟩ := hv
      subst hc
      have hs1 : (s₁.setGen gn gs').gens[gn]? = some gs' := setGen_self (gs := s₁.gens[gn]) (Array.getElem?_eq_getElem hgl1)
      cases N with
      | zero => omega
      | succ k =>
        refine hyes k _ (Nat.lt_succ_self k) ⟨?_, gs', m', hs1, hm', li'.setGen hb, fun s'' l'' => kap s'' l''⟩
        obtain ⟨_, _, I, _⟩ := li'
        exact hgo _ (I.pin (a, go) (List.mem_append_right _ (by rw [hpin]; exact List.mem_cons_self))).1
    · rw [if_neg hc] at hv
      have : c = !isAll := by cases c <;> cases isAll <;> simp_all
      subst this
      exact hno _ (hv.setGen hb)
  · exact hend _ ((hp.2.setGen rfl).kept hk)
end
end M

namespace M
open PySem PySem.Spec PyProof.Rows L2
section
variable {G : Cx} {pin : List (Addr × Obj)} {σ0 : L2.St} {fp : List Addr} {tn : Nat → Heap → Prop} {W : Nat → Nat → Hp → Prop} {Qe Qs : Hp → Prop} {A : Around} {a : Addr} {gn : Nat} {go : Obj}
/-- the walk's end -/
def QEnd (G : Cx) (pin : List (Addr × Obj)) (Qe Qs : Hp → Prop) (isAll : Bool) (b : Bool) (s' : Shared) : Prop := (b = isAll ∧ EndInv G pin Qe s') ∨ (b = !isAll ∧ EndInv G pin Qs s')
/-- all() and any() over a generator are one walk: it goes on while what comes out is as told at its end -/
theorem gen_loop (isAll : Bool) (hh : A.handled = none) (hroom : A.depth < recursionLimit) (hpin : pin = [(a, go)]) (hgo : ∀ h : Heap, h.get? a = some go → h.IsGen a gn) {R : Result → Shared → Prop} (hR : ∀ b s', QEnd G pin Qe Qs isAll b s' → R (.ok (.ret (.bool b))) s') :
    ∀ (N : Nat) (s : Shared), GenSt G A.in1.in1 pin σ0 fp tn W isAll Qe Qs a gn N s → codeAny (model G.prog G.w) A (.builtin (if isAll then "all.loop" else "any.loop") ⟨[.ref a], []⟩) R s := by
  intro N
  induction N using Nat.strongRecOn with
  | ind N ih =>
    intro s st
    cases isAll
    case' false => refine codeAny_builtin (id := "any.loop") F.entry_any_loop (Around.under_plainId F.plain_any_loop _ ▸ ?_)
    case' true => refine codeAny_builtin (id := "all.loop") F.entry_all_loop (Around.under_plainId F.plain_all_loop _ ▸ ?_)
    all_goals
      refine wpAny_bind (m := pyNext (.ref a)) (next_gen (A := A.in1) hh hroom hpin hgo st (fun s' e => ?_) (fun n s' hn st' => ?_) fun s' e => ?_)
      · exact wpAny_bind (wpAny_rule (wpAny_pure (hR _ s' (.inl ⟨rfl, e⟩))))
      · refine wpAny_bind (wpAny_holding (wpAny_truthy_bool (wpAny_bind (wpAny_letGo ?_))))
        exact wpAny_pure ⟨plainId_quiet (by first | exact F.plain_all_loop | exact F.plain_any_loop) _, ih n hn s' st'⟩
      · refine wpAny_bind (wpAny_holding (wpAny_truthy_bool (wpAny_bind (wpAny_letGo ?_))))
        exact wpAny_bind (wpAny_rule (wpAny_pure (hR _ s' (.inr ⟨rfl, e⟩))))
theorem call_allG (hh : A.handled = none) (hroom : A.depth < recursionLimit) (hpin : pin = [(a, go)]) (hgo : ∀ h : Heap, h.get? a = some go → h.IsGen a gn) {Q : Value → Shared → Prop} {E : Value → Shared → Prop} (hR : ∀ b s', QEnd G pin Qe Qs true b s' → Q (.bool b) s') {N : Nat} {s : Shared}
    (st : GenSt G A.in1.in1 pin σ0 fp tn W true Qe Qs a gn N s) : wpAny (model G.prog G.w) A (call (.builtin "all") [.ref a]) Q E s := by
  refine call_function_tree (A := A) F.kind_all F.plain_all F.entry_all (F.args_all1 _) ?_
  delta Builtin.«all»
  exact wpAny_bind (m := oneArg _ _) (wpAny_pure (wpAny_bind (wpAny_pyIter_gen st.1 (wpAny_pure ⟨plainId_quiet F.plain_all_loop _, gen_loop true hh hroom hpin hgo (fun b s' q => hR b s' q) N s st⟩))))
theorem call_anyG (hh : A.handled = none) (hroom : A.depth < recursionLimit) (hpin : pin = [(a, go)]) (hgo : ∀ h : Heap, h.get? a = some go → h.IsGen a gn) {Q : Value → Shared → Prop} {E : Value → Shared → Prop} (hR : ∀ b s', QEnd G pin Qe Qs false b s' → Q (.bool b) s') {N : Nat} {s : Shared}
    (st : GenSt G A.in1.in1 pin σ0 fp tn W false Qe Qs a gn N s) : wpAny (model G.prog G.w) A (call (.builtin "any") [.ref a]) Q E s := by
  refine call_function_tree (A := A) F.kind_any F.plain_any F.entry_any (F.args_any1 _) ?_
  delta Builtin.«any»
  exact wpAny_bind (m := oneArg _ _) (wpAny_pure (wpAny_bind (wpAny_pyIter_gen st.1 (wpAny_pure ⟨plainId_quiet F.plain_any_loop _, gen_loop false hh hroom hpin hgo (fun b s' q => hR b s' q) N s st⟩))))
end
end M

namespace M
open PySem PySem.Spec PyProof.Rows L2

/-- what the built-ins' module looks like -/
def BMod (mg : Str → Option Value) (base : Heap) : Prop := ∃ bm ob, mg "__builtins__" = some (.ref bm) ∧ bm ≠ builtinsNs ∧ base.get? bm = some ob ∧ ob.cls = .type "module" ∧ ob.dict = some builtinsNs ∧ ob.data = .plain
abbrev gcode (elt tg iter : Expr) (ifs : List Expr) (scope : Scope) (pos : Pos) (it : Addr) (genv : Env) : Code := .compLoop (.GeneratorExp elt [⟨tg, iter, ifs, 0⟩] scope pos) 0 (.ref it) .none genv
abbrev gA (A : Around) (elt tg iter : Expr) (ifs : List Expr) (scope : Scope) (pos : Pos) (it : Addr) (genv : Env) : Around := A.in1.in1.over (gcode elt tg iter ifs scope pos it genv) []
theorem room_gen {k : Nat} {A : Around} {elt tg iter : Expr} {ifs : List Expr} {scope : Scope} {pos : Pos} {it : Addr} {genv : Env} (r : Room (k + 1) A) : Room k (gA A elt tg iter ifs scope pos it genv) := by
  have d : (gA A elt tg iter ifs scope pos it genv).depth = A.depth + 1 := by
    first | rfl | simp [gA, gcode, Around.over, Code.weight, Code.isCreation, Code.isGuard, Code.isCaller, Code.frames, Code.isFrame, guardIds, frameCount]
  have u : (gA A elt tg iter ifs scope pos it genv).units ≤ A.units + 8 := by
    first | exact Nat.le_of_ble_eq_true rfl | (simp [gA, gcode, Around.over, Code.cUnits, Code.frames, Code.isFrame, unitsOf]; try omega)
  have g : (gA A elt tg iter ifs scope pos it genv).guards = A.guards := by
    rw [r.gd]
    first | rfl | simp [gA, gcode, Around.over, Code.guards, Code.isGuard, guardIds, pushGuards, guardsOf, r.gd]
  refine ⟨r.hd, ?_, ?_, g.trans r.gd⟩
  · have := r.dp; rw [d]; omega
  · have := r.un; omega
theorem frames_gen {A : Around} {elt tg iter : Expr} {ifs : List Expr} {scope : Scope} {pos : Pos} {it : Addr} {genv : Env} {l : List Env} (h : A.frames = some l) : (gA A elt tg iter ifs scope pos it genv).frames = some (genv :: l) := by
  obtain ⟨_, _, fr, _, _⟩ := A
  cases h
  first | rfl | simp [gA, gcode, Around.over, Code.envs, pushEnvs, envsOf]
end M

namespace M
open PySem PySem.Spec PyProof.Rows L2

/-- a def's table grows -/
theorem _root_.L2.Inv.grown {X : Cx} {pins : List (Addr × Obj)} {σ : L2.St} {H : Hp} {s : Shared} {P : Addr} {ps more : Array Value} {h' : Heap} {t' : Nat} (I : Inv X pins σ H s) (hP : H P = some (.tbl ps)) (ext : Heap.ExtBut P s.heap h') (hp : h'.get? P = some (PySem.W.tabObj (ps ++ more))) :
    Inv X pins σ (upd H P (.tbl (ps ++ more))) { s with heap := h', toks := t' } := by
  have ne : ∀ b, H b = none → b ≠ P := fun b n z => by rw [z, hP] at n; cases n
  refine I.un ⟨fun b o e n _ _ => ext b o (ne b n) e, fun b o e n _ _ => ⟨o.slots, ext b o (ne b n) e⟩, fun b o e n _ => by rw [upd_ne (ne b n)]; exact n, fun b o e _ => ?_, fun b xs e => ?_, fun b o u e => ?_, fun b qs e => ?_⟩ fun b u e => ?_
  · by_cases hb : b = P
    · subst hb; exact ⟨_, hp⟩
    · exact ⟨o, ext b o hb e⟩
  · rw [upd_ne (ne_of e hP (by intro z; cases z))]; exact e
  · rw [upd_ne (ne_of e hP (by intro z; cases z))]; exact e
  · by_cases hb : b = P
    · subst hb
      rw [hP] at e; cases e
      exact ⟨more, upd_same⟩
    · exact ⟨#[], by rw [upd_ne hb, e]; simp⟩
  · by_cases hb : b = P
    · subst hb
      rw [upd_same] at e; cases e
      exact hp
    · rw [upd_ne hb] at e
      refine (I.hok b u e).stay (fun c v hc q => ext c v ?_ q) (fun c q => ?_) fun c xs q => ?_
      · rcases hc with rfl | hc
        · exact hb
        · exact ne_of hc hP (by intro z; cases z)
      · rw [upd_ne (ne_of q hP (by intro z; cases z))]; exact q
      · rw [upd_ne (ne_of q hP (by intro z; cases z))]; exact q

/-- all(elt for target in iter if ..), any(..): the table at P grows, then the walk -/
def tGen (isAll : Bool) (P : Addr) (wi : TI) (g : TG) (tt : TT) (te : TE) (vs : List Nat) : TE := fun σ H Q => wi σ H fun J H1 => ∃ ps : Array Value, H1 P = some (.tbl ps) ∧ TriplesOk ps.toList ∧ ∀ more : Array Value, TriplesOk (ps ++ more).toList →
  ∃ W : Nat → Nat → Hp → Prop, (∃ m, W 0 m (upd H1 P (.tbl (ps ++ more)))) ∧ ∀ i m H, W i m H →
    (J.stop i H ∧ Q (.bl isAll) H) ∨ (J.go i H ∧ ∃ Nx : Hp → Prop, (∀ H', Nx H' → ∃ m', m' < m ∧ W (i + 1) m' H') ∧ ∀ x H', J.yld i H x H' → g x (wipe σ vs) H' fun σ2 H2 => wipe σ2 vs = wipe σ vs ∧ tt σ2 H2 fun b H3 =>
      if b = true then te σ2 H3 fun y H4 => ∃ c, y = .bl c ∧ if c = isAll then Nx H4 else Q (.bl (!isAll)) H4 else Nx H3)

/-- the built-in that consumes -/
def gname (isAll : Bool) : String := if isAll then "all" else "any"
theorem call_gen {G : Cx} {pin : List (Addr × Obj)} {σ0 : L2.St} {fp : List Addr} {tn : Nat → Heap → Prop} {W : Nat → Nat → Hp → Prop} {Qe Qs : Hp → Prop} {A : Around} {a : Addr} {gn : Nat} {go : Obj} {isAll : Bool}
    (hh : A.handled = none) (hroom : A.depth < recursionLimit) (hpin : pin = [(a, go)]) (hgo : ∀ h : Heap, h.get? a = some go → h.IsGen a gn) {Q : Value → Shared → Prop} {E : Value → Shared → Prop} (hR : ∀ b s', QEnd G pin Qe Qs isAll b s' → Q (.bool b) s') {N : Nat} {s : Shared}
    (st : GenSt G A.in1.in1 pin σ0 fp tn W isAll Qe Qs a gn N s) : wpAny (model G.prog G.w) A (call (.builtin (gname isAll)) [.ref a]) Q E s := by
  cases isAll with
  | true => exact call_allG hh hroom hpin hgo hR st
  | false => exact call_anyG hh hroom hpin hgo hR st

section
variable {X : Cx}
theorem pe_gen {isAll : Bool} {c P : Addr} {k : Nat} {f : Str} {elt tg iter : Expr} {ifs : List Expr} {scope : Scope} {own : List (Str × Nat)} {p pos gpos : Pos} {wi : TI} {g : TG} {tt : TT} {te : TE} (hc : X.calm = true) (hN : X.N.Nodup) (hr : Room (k + 1) X.A) (hbm : BMod X.mg X.base)
    (hcd : X.env.code = .ref c) (hhd : PySem.W.codeHdIn X.K c P = true) (hi : PI X tg iter wi) (ok : BlkOk X.N X.env.scope scope own) (nc : ∀ y ∈ scope.names, y.2 ≠ .cell) (h0 : scope.names.lookup (".0" : Str) = some NameKind.local) (co : scope.isCoroutine = false)
    (hg : ∀ (s : Shared) (H : Hp) (A : Around) (C : Addr) (cl : List (Str × Addr)) (code : Value) (fp : List Addr), Room k A → PG (gblk X s H A (genEnv scope cl C code builtinsNs X.env) fp) tg g)
    (ht : ∀ (s : Shared) (H : Hp) (A : Around) (C : Addr) (cl : List (Str × Addr)) (code : Value) (fp : List Addr), Room k A → PTs (gblk X s H A (genEnv scope cl C code builtinsNs X.env) fp) ifs tt)
    (he : ∀ (s : Shared) (H : Hp) (A : Around) (C : Addr) (cl : List (Str × Addr)) (code : Value) (fp : List Addr), Room k A → PE (gblk X s H A (genEnv scope cl C code builtinsNs X.env) fp) elt te)
    (hs : ∀ x, genFold iter X.env x = pure x) (hgl : Gl X f) (hm : X.mg f = none) (hv : bootBuiltins f = some (.builtin (gname isAll))) (hn : f ≠ "__name__" := by decide) (hdb : (f == ("__debug__" : Str)) = false := by decide)
    (hse : starEach [.GeneratorExp elt [⟨tg, iter, ifs, 0⟩] scope gpos] X.env = [(false, eval (.GeneratorExp elt [⟨tg, iter, ifs, 0⟩] scope gpos) X.env)] := by rfl) :
    PE X (.Call (.Name f p) [.GeneratorExp elt [⟨tg, iter, ifs, 0⟩] scope gpos] [] pos) (tGen isAll P wi g tt te (own.map (·.2))) := by
  intro pins s σ H Q I h
  have hfree : ∀ y ∈ scope.names, y.2 = .free → ∃ c, X.env.cells.lookup y.1 = some c := fun y hy e => by
    rcases ok.free y hy e with k | k
    · exact I.ok.has _ (.inl k)
    · exact I.ok.has _ (.inr k)
  refine wpAny_Call_Name_kw (ld_blt I hgl hm hv ?_ hn hdb)
  refine PyProof.Rows.callWith_builtin1 ?_ (by rw [hse]; rfl) (by rfl)
  rw [hse]
  refine Calls.spliced_cons ?_
  refine wpAny_GeneratorExp_make co (closure_ok hfree) nc h0 ok.kind hr.depth (thn (hi pins s σ H _ I h) fun xv s1 hx => thn hx fun itv s2 h2 => ?_) hs
  obtain ⟨it, fp, tn, J, H2, e, I2, T, st2, f2, ps, hP, htr, q⟩ := h2
  subst e
  refine ⟨I2.nolimit, genexpr_code hcd (PySem.W.codeHd_of_K I2.kIn hhd) (I2.hok P _ hP) htr fun code h' tk more ext hp' ht' => ?_⟩
  obtain ⟨W, ⟨m0, w0⟩, turn⟩ := q more ht'
  have I3 : Inv X pins σ (upd H2 P (.tbl (ps ++ more))) { s2 with heap := h', toks := tk } := I2.grown hP ext hp'
  obtain ⟨bm, ob, b1, b2, b3, b4, b5, b6⟩ := hbm
  have gl : h'.Ns X.env.globals X.mg := by rw [I.ok.glob]; exact I3.ok.mod.glob.keeps I3.bk
  refine wpAny_builtinsFor gl b1 b2 (I3.bk _ _ b3) b4 b5 b6 ?_
  intro h'' ns sb
  have neP : ∀ b, H2 b = none → b ≠ P := fun b n z => by rw [z, hP] at n; cases n
  have hlt : ∀ b ∈ fp, b < h'.objs.size := fun b hb => by
    obtain ⟨o, e, _⟩ := T.obj _ _ st2 b hb
    exact Heap.lt_size (ext b o (neP b (f2 b hb).1) e)
  have f3 : ∀ b ∈ fp, FpOk X pins (upd H2 P (.tbl (ps ++ more))) b ∧ b < h'.objs.size := fun b hb => ⟨⟨by rw [upd_ne (neP b (f2 b hb).1)]; exact (f2 b hb).1, (f2 b hb).2⟩, hlt b hb⟩
  generalize hH3 : upd H2 P (.tbl (ps ++ more)) = H3 at I3 w0 f3
  generalize hgo : ({ cls := .type "generator", data := .fields #[.int s2.gens.size 0, .str "<genexpr>" (tk + 1), .str (X.env.qual ++ "<genexpr>") (tk + 1 + 1)] } : Obj) = go
  have hsz : h''.objs.size = h'.objs.size + 1 := by rw [sb.1, Heap.size_push]
  refine Calls.spliced_nil ?_
  show wpAny _ X.A (call (.builtin (gname isAll)) [.ref h''.objs.size]) _ _ _
  generalize hge : genEnv scope (cloFrom X.env.cells scope.names []) h'.objs.size code builtinsNs X.env = genv
  have rm : Room k (gA X.A elt tg iter ifs scope gpos it genv) := room_gen hr
  have I5 : Inv (gblk X { s2 with heap := h', toks := tk } H3 (gA X.A elt tg iter ifs scope gpos it genv) genv fp) [(h''.objs.size, go)] (wipe σ (own.map (·.2))) H3
      { s2 with gens := s2.gens.push (.fresh (.compStart (.GeneratorExp elt [⟨tg, iter, ifs, 0⟩] scope gpos) 0 (.ref it) .none genv)), toks := tk + 1 + 1 + 1, heap := h''.push go } := by
    have z := gen_start (A := gA X.A elt tg iter ifs scope gpos it genv) (code := code) (go := go) (g' := s2.gens.push (.fresh (.compStart (.GeneratorExp elt [⟨tg, iter, ifs, 0⟩] scope gpos) 0 (.ref it) .none genv))) (t' := tk + 1 + 1 + 1) I3 ok hN f3 nc rm.hd (by show (gA X.A elt tg iter ifs scope gpos it genv).frames = some (genEnv scope (cloFrom X.env.cells scope.names []) h'.objs.size code builtinsNs X.env :: X.stack); rw [hge]; exact frames_gen I.ok.frames) ns sb (fun v z => by rw [← hgo] at z; cases z) (by rw [← hgo]; rfl) (I2.bare.push rfl)
    have hge' : genEnv scope (cloFrom X.env.cells scope.names []) ({ s2 with heap := h', toks := tk } : Shared).heap.objs.size code builtinsNs X.env = genv := hge
    rw [hge'] at z
    exact z
  have pg := hg { s2 with heap := h', toks := tk } H3 (gA X.A elt tg iter ifs scope gpos it genv) h'.objs.size (cloFrom X.env.cells scope.names []) code fp rm
  have pt := ht { s2 with heap := h', toks := tk } H3 (gA X.A elt tg iter ifs scope gpos it genv) h'.objs.size (cloFrom X.env.cells scope.names []) code fp rm
  have pe := he { s2 with heap := h', toks := tk } H3 (gA X.A elt tg iter ifs scope gpos it genv) h'.objs.size (cloFrom X.env.cells scope.names []) code fp rm
  have cog : genv.scope.isCoroutine = false := by rw [← hge]; exact co
  rw [hge] at pg pt pe
  have kp5 : ∀ b o, h'.get? b = some o → (h''.push go).get? b = some o := fun b o e => Heap.get?_push_of_some _ (sb.extBut b o (Nat.ne_of_lt (Heap.lt_size e)) (Heap.get?_push_of_some _ e))
  have st5 : tn 0 (h''.push go) := T.keep _ _ _ st2 fun b hb o e => kp5 b o (ext b o (neP b (f2 b hb).1) e)
  have isg : ∀ hh : Heap, hh.get? h''.objs.size = some go → hh.IsGen h''.objs.size s2.gens.size := fun hh e => ⟨go, _, _, e, by rw [← hgo], by rw [← hgo], by rw [← hgo]⟩
  have stat : ∀ (σ' : L2.St) (H' : Hp) (s' : Shared), Inv (gblk X { s2 with heap := h', toks := tk } H3 (gA X.A elt tg iter ifs scope gpos it genv) genv fp) [(h''.objs.size, go)] σ' H' s' → (∀ b ∈ fp, H' b = none) → ∀ b ∈ fp, FpOk (gblk X { s2 with heap := h', toks := tk } H3 (gA X.A elt tg iter ifs scope gpos it genv) genv fp) [(h''.objs.size, go)] H' b := fun σ' H' s' I' hn b hb =>
    ⟨hn b hb, (I'.ok.exf b hb).1, I'.ok.exfs b hb, .inl hb, fun x c e => (I'.ok.exf b hb).2 x c e, fun p hp => by
      obtain rfl : p = (h''.objs.size, go) := by simpa using hp
      have z1 : b < h'.objs.size := hlt b hb
      have z2 : b < h''.objs.size := by rw [hsz]; exact Nat.lt_succ_of_lt z1
      exact Nat.ne_of_gt z2⟩
  refine call_gen (G := gblk X { s2 with heap := h', toks := tk } H3 (gA X.A elt tg iter ifs scope gpos it genv) genv fp) (pin := [(h''.objs.size, go)]) (σ0 := wipe σ (own.map (·.2))) (fp := fp) (tn := tn) (W := W) (Qe := fun H' => Q (.bl isAll) H') (Qs := fun H' => Q (.bl (!isAll)) H') (gn := s2.gens.size) (go := go) (N := m0 + 1) hr.hd hr.depth rfl isg (fun b s' z => ?_) ⟨?_, GenState.fresh (.compStart (.GeneratorExp elt [⟨tg, iter, ifs, 0⟩] scope gpos) 0 (.ref it) .none genv), m0, ?_, Nat.lt_succ_self _, ⟨0, H3, I5, st5, fun b hb => (f3 b hb).1.1, w0⟩, fun s'' li => ⟨rfl, ?_⟩⟩
  · have fin : ∀ (q : Hp → Prop), EndInv (gblk X { s2 with heap := h', toks := tk } H3 (gA X.A elt tg iter ifs scope gpos it genv) genv fp) [(h''.objs.size, go)] q s' → ∃ H', Inv X pins σ H' s' ∧ q H' := fun q ⟨σ', H', J, z⟩ =>
      ⟨H', I3.call' (ch := fp) J.os J.base J.hok J.bare fun b hb => ⟨(f3 b hb).1.2.2.2.1, (f3 b hb).1.2.1, (f3 b hb).1.2.2.2.2.1, (f3 b hb).1.2.2.2.2.2⟩, z⟩
    rcases z with ⟨rfl, z⟩ | ⟨rfl, z⟩
    · obtain ⟨H', J, z⟩ := fin _ z
      exact ⟨.bl _, H', J, rfl, z⟩
    · obtain ⟨H', J, z⟩ := fin _ z
      exact ⟨.bl _, H', J, rfl, z⟩
  · exact isg _ (I5.pin (h''.objs.size, go) (List.mem_append_right _ List.mem_cons_self)).1
  · exact Array.getElem?_push_size ..
  · obtain ⟨i, H', I', st', nf, w'⟩ := id li
    exact seg_start (G := gblk X { s2 with heap := h', toks := tk } H3 (gA X.A elt tg iter ifs scope gpos it genv) genv fp) T st' (seg_loop (G := gblk X { s2 with heap := h', toks := tk } H3 (gA X.A elt tg iter ifs scope gpos it genv) genv fp) rfl hc cog rfl T pg pt pe stat turn m0 s'' s'' (m0 + 1) (Nat.lt_succ_self _) li (Nat.le_refl _))
end
end M

/-! Whether a value that is a tuple may be one of the module's own (True), or is always a new one (False). -/
namespace M
def Loose : Prop := True
end M

namespace L2
open PySem PySem.Spec PyProof.Rows
/-- an exception that was caught -/
def XeO (e : Addr) (cls : Value) (dx : Addr) : HO := .ext fun h => ∃ oe vs, h.get? e = some oe ∧ oe.cls = cls ∧ oe.dict = some dx ∧ oe.data = .fields vs
end L2

/-! PLAIN VALUES over the hand layer: tuples are values, only what may change lies in a store. -/
namespace M
open PySem PySem.Spec PyProof.Rows L2


/-- a plain value: a tuple is its items, a thing that may change is its number in the store -/
inductive PV where
  | non | bl (b : Bool) | int (i : Int) | str (x : Str) | tup (xs : List PV) | ref (n : Nat) | ty (n : String) | adr (a : Addr) | kls (xs : List PV)

/-- what lies in the store: a list, a list that is only read, a dict, an instance -/
inductive MO where
  | lst (xs : List PV) | ro (xs : List PV) | dct (kvs : List (Key × PV)) | ins (C : Addr) (fs : List (Str × PV)) | exc (c : Str) (fs : List (Str × PV)) | dcT (kvs : List (List Key × PV)) | rdT (kvs : List (List Key × PV))

abbrev Sto := List MO
abbrev Fr := List (Option PV)
abbrev Post := PV → Sto → Prop
abbrev WE := Fr → Sto → Post → Prop
abbrev WT := Fr → Sto → (Bool → Sto → Prop) → Prop
abbrev WA := Fr → Sto → (List PV → Sto → Prop) → Prop
structure PD where
  nx : Fr → Sto → Prop
  rt : Post
  bk : Fr → Sto → Prop := fun _ _ => False
  ct : Fr → Sto → Prop := fun _ _ => False
abbrev WS := PD → Fr → Sto → Prop

/-! ### how plain things lie in the abstract heap -/
/-- a list among the module's own objects -/
def KL (K : PySem.W.Frag) (a : Addr) (vs : List V) : Prop := ∃ (o : Obj) (its : Array Value) (n : Nat), K.lookup a = some o ∧ o.cls = .type "list" ∧ o.dict = none ∧ o.data = .seq its n ∧ its.size ≤ sizeLine ∧ Vals vs its.toList
theorem KL.sq {K : PySem.W.Frag} {H : Hp} {a : Addr} {vs : List V} (h : KL K a vs) : SqL K H a vs := .inr h
/-- a tuple: a new one; one of the module's own only where those are let in -/
def TupP (K : PySem.W.Frag) (H : Hp) (a : Addr) (vs : List V) : Prop := H a = some (.tup vs) ∨ (Loose ∧ SqT K H a vs)
theorem TupP.of {K : PySem.W.Frag} {H : Hp} {a : Addr} {vs : List V} (h : H a = some (.tup vs)) : TupP K H a vs := .inl h
theorem TupP.sq {K : PySem.W.Frag} {H : Hp} {a : Addr} {vs : List V} (h : TupP K H a vs) : SqT K H a vs := h.elim .of fun h => h.2
theorem TupP.mk {K : PySem.W.Frag} {H H' : Hp} (t : ∀ a xs, H a = some (.tup xs) → H' a = some (.tup xs)) (g : ∀ a xs, SqT K H a xs → SqT K H' a xs) (a : Addr) (xs : List V) (h : TupP K H a xs) : TupP K H' a xs := h.imp (t a xs) fun h => ⟨h.1, g a xs h.2⟩
mutual
inductive RV (K : PySem.W.Frag) (ι : List Addr) (H : Hp) : PV → V → Prop
  | non : RV K ι H .non .non
  | bl (b : Bool) : RV K ι H (.bl b) (.bl b)
  | int (i : Int) : RV K ι H (.int i) (.int i)
  | str (x : Str) : RV K ι H (.str x) (.str x)
  | ty (n : String) : RV K ι H (.ty n) (.ty n)
  | adr (a : Addr) : RV K ι H (.adr a) (.ref a)
  | tup {a : Addr} {xs : List PV} {vs : List V} : TupP K H a vs → RVs K ι H xs vs → RV K ι H (.tup xs) (.ref a)
  | ref {n : Nat} {a : Addr} : ι[n]? = some a → RV K ι H (.ref n) (.ref a)
  | kls {a : Addr} {xs : List PV} {vs : List V} : KL K a vs → RVs K ι H xs vs → RV K ι H (.kls xs) (.ref a)
inductive RVs (K : PySem.W.Frag) (ι : List Addr) (H : Hp) : List PV → List V → Prop
  | nil : RVs K ι H [] []
  | cons {p : PV} {v : V} {ps : List PV} {vs : List V} : RV K ι H p v → RVs K ι H ps vs → RVs K ι H (p :: ps) (v :: vs)
end

def HidO : HO → Prop
  | .lst _ => True
  | .dK _ => True
  | .xd _ => True
  | _ => False
structure Fut (K : PySem.W.Frag) (ι : List Addr) (H : Hp) (ι' : List Addr) (H' : Hp) : Prop where
  pre : ∀ (n : Nat) (a : Addr), ι[n]? = some a → ι'[n]? = some a
  tup : ∀ (a : Addr) (xs : List V), SqT K H a xs → SqT K H' a xs
  /-- a list or dict that lies outside the store stays, and stays outside -/
  hid : ∀ (a : Addr) (o : HO), HidO o → a ∉ ι → H a = some o → a ∉ ι' ∧ H' a = some o
  tt : ∀ (a : Addr) (xs : List V), H a = some (.tup xs) → H' a = some (.tup xs)
  /-- what is locked stays -/
  fz : ∀ (a : Addr) (ob : Obj) (o : HO), H a = some (.frz ob o) → H' a = some (.frz ob o)

theorem Fut.refl {K : PySem.W.Frag} {ι : List Addr} {H : Hp} : Fut K ι H ι H := ⟨fun _ _ h => h, fun _ _ h => h, fun _ _ _ h q => ⟨h, q⟩, fun _ _ h => h, fun _ _ _ h => h⟩
theorem Fut.trans {K : PySem.W.Frag} {ι ι1 ι2 : List Addr} {H H1 H2 : Hp} (f : Fut K ι H ι1 H1) (g : Fut K ι1 H1 ι2 H2) : Fut K ι H ι2 H2 :=
  ⟨fun n a h => g.pre n a (f.pre n a h), fun a xs h => g.tup a xs (f.tup a xs h), fun a o z h q => g.hid a o z (f.hid a o z h q).1 (f.hid a o z h q).2, fun a xs h => g.tt a xs (f.tt a xs h), fun a ob o h => g.fz a ob o (f.fz a ob o h)⟩
theorem Fut.tp {K : PySem.W.Frag} {ι ι' : List Addr} {H H' : Hp} (f : Fut K ι H ι' H') (a : Addr) (xs : List V) (h : TupP K H a xs) : TupP K H' a xs := TupP.mk f.tt f.tup a xs h
/-- the code tables that are tracked from the law's entry on; what has been true since a def's or a try's entry -/
class Tabs where
  T : Addr → Prop
  since : PySem.W.Frag → List Addr → Hp → Prop
  mono : ∀ {K : PySem.W.Frag} {ι ι' : List Addr} {H H' : Hp}, since K ι H → Fut K ι H ι' H' → since K ι' H'
variable [Tabs]

mutual
theorem RV.mv {K : PySem.W.Frag} {ι ι' : List Addr} {H H' : Hp} (f : ∀ (n : Nat) (a : Addr), ι[n]? = some a → ι'[n]? = some a) (g : ∀ (a : Addr) (xs : List V), TupP K H a xs → TupP K H' a xs) : ∀ {p : PV} {v : V}, RV K ι H p v → RV K ι' H' p v
  | _, _, .non => .non
  | _, _, .bl b => .bl b
  | _, _, .int i => .int i
  | _, _, .str x => .str x
  | _, _, .ty n => .ty n
  | _, _, .adr a => .adr a
  | _, _, .tup h r => .tup (g _ _ h) (RVs.mv f g r)
  | _, _, .ref h => .ref (f _ _ h)
  | _, _, .kls h r => .kls h (RVs.mv f g r)
theorem RVs.mv {K : PySem.W.Frag} {ι ι' : List Addr} {H H' : Hp} (f : ∀ (n : Nat) (a : Addr), ι[n]? = some a → ι'[n]? = some a) (g : ∀ (a : Addr) (xs : List V), TupP K H a xs → TupP K H' a xs) : ∀ {ps : List PV} {vs : List V}, RVs K ι H ps vs → RVs K ι' H' ps vs
  | _, _, .nil => .nil
  | _, _, .cons r t => .cons (RV.mv f g r) (RVs.mv f g t)
end

mutual
theorem RV.fut {K : PySem.W.Frag} {ι ι' : List Addr} {H H' : Hp} (f : Fut K ι H ι' H') : ∀ {p : PV} {v : V}, RV K ι H p v → RV K ι' H' p v
  | _, _, .non => .non
  | _, _, .bl b => .bl b
  | _, _, .int i => .int i
  | _, _, .str x => .str x
  | _, _, .ty n => .ty n
  | _, _, .adr a => .adr a
  | _, _, .tup h r => .tup (f.tp _ _ h) (RVs.fut f r)
  | _, _, .ref h => .ref (f.pre _ _ h)
  | _, _, .kls h r => .kls h (RVs.fut f r)
theorem RVs.fut {K : PySem.W.Frag} {ι ι' : List Addr} {H H' : Hp} (f : Fut K ι H ι' H') : ∀ {ps : List PV} {vs : List V}, RVs K ι H ps vs → RVs K ι' H' ps vs
  | _, _, .nil => .nil
  | _, _, .cons r t => .cons (RV.fut f r) (RVs.fut f t)
end

section
variable {K : PySem.W.Frag} {ι : List Addr} {H : Hp}
theorem RVs.length : ∀ {ps : List PV} {vs : List V}, RVs K ι H ps vs → ps.length = vs.length
  | _, _, .nil => rfl
  | _, _, .cons _ t => by rw [List.length_cons, List.length_cons, RVs.length t]
theorem RVs.get : ∀ {ps : List PV} {vs : List V} {i : Nat} {p : PV}, RVs K ι H ps vs → ps[i]? = some p → ∃ v, vs[i]? = some v ∧ RV K ι H p v
  | _, _, _, _, .nil, e => by simp at e
  | _, _, 0, _, .cons r _, e => by simp at e; subst e; exact ⟨_, rfl, r⟩
  | _, _, i + 1, p, .cons _ t, e => by
    obtain ⟨v, h1, h2⟩ := RVs.get (i := i) (p := p) t (by simpa using e)
    exact ⟨v, by simpa using h1, h2⟩
theorem RVs.get' : ∀ {ps : List PV} {vs : List V} {i : Nat} {v : V}, RVs K ι H ps vs → vs[i]? = some v → ∃ p, ps[i]? = some p ∧ RV K ι H p v
  | _, _, _, _, .nil, e => by simp at e
  | _, _, 0, _, .cons r _, e => by simp at e; subst e; exact ⟨_, rfl, r⟩
  | _, _, i + 1, v, .cons _ t, e => by
    obtain ⟨p, h1, h2⟩ := RVs.get' (i := i) (v := v) t (by simpa using e)
    exact ⟨p, by simpa using h1, h2⟩
theorem RVs.append : ∀ {ps qs : List PV} {vs ws : List V}, RVs K ι H ps vs → RVs K ι H qs ws → RVs K ι H (ps ++ qs) (vs ++ ws)
  | _, _, _, _, .nil, s => s
  | _, _, _, _, .cons r t, s => .cons r (RVs.append t s)
theorem RVs.take : ∀ {ps : List PV} {vs : List V} (n : Nat), RVs K ι H ps vs → RVs K ι H (ps.take n) (vs.take n)
  | _, _, 0, _ => .nil
  | _, _, _ + 1, .nil => .nil
  | _, _, n + 1, .cons r t => .cons r (RVs.take n t)
theorem RVs.drop : ∀ {ps : List PV} {vs : List V} (n : Nat), RVs K ι H ps vs → RVs K ι H (ps.drop n) (vs.drop n)
  | _, _, 0, r => r
  | _, _, _ + 1, .nil => .nil
  | _, _, n + 1, .cons _ t => RVs.drop n t
theorem RVs.rev : ∀ {ps : List PV} {vs : List V}, RVs K ι H ps vs → RVs K ι H ps.reverse vs.reverse
  | _, _, .nil => .nil
  | _, _, .cons r t => by rw [List.reverse_cons, List.reverse_cons]; exact (RVs.rev t).append (.cons r .nil)
theorem RVs.set {p : PV} {v : V} (r : RV K ι H p v) : ∀ {ps : List PV} {vs : List V} (i : Nat), RVs K ι H ps vs → RVs K ι H (ps.set i p) (vs.set i v)
  | _, _, _, .nil => .nil
  | _, _, 0, .cons _ t => .cons r t
  | _, _, i + 1, .cons q t => .cons q (RVs.set r i t)
theorem RVs.ints : ∀ ns : List Int, RVs K ι H (ns.map PV.int) (ns.map V.int)
  | [] => .nil
  | n :: ns => .cons (.int n) (RVs.ints ns)
end

/-- a dict's entries, an instance's fields -/
inductive RKs {κ : Type} (K : PySem.W.Frag) (ι : List Addr) (H : Hp) : List (κ × PV) → List (κ × V) → Prop
  | nil : RKs K ι H [] []
  | cons {k : κ} {p : PV} {v : V} {ps : List (κ × PV)} {vs : List (κ × V)} : RV K ι H p v → RKs K ι H ps vs → RKs K ι H ((k, p) :: ps) ((k, v) :: vs)
theorem RKs.fut {κ : Type} {K : PySem.W.Frag} {ι ι' : List Addr} {H H' : Hp} (f : Fut K ι H ι' H') : ∀ {ps : List (κ × PV)} {vs : List (κ × V)}, RKs K ι H ps vs → RKs K ι' H' ps vs
  | _, _, .nil => .nil
  | _, _, .cons r t => .cons (r.fut f) (RKs.fut f t)

theorem RKs.mv {κ : Type} {K : PySem.W.Frag} {ι ι' : List Addr} {H H' : Hp} (f : ∀ (n : Nat) (a : Addr), ι[n]? = some a → ι'[n]? = some a) (g : ∀ (a : Addr) (xs : List V), TupP K H a xs → TupP K H' a xs) : ∀ {ps : List (κ × PV)} {vs : List (κ × V)}, RKs K ι H ps vs → RKs K ι' H' ps vs
  | _, _, .nil => .nil
  | _, _, .cons r t => .cons (r.mv f g) (RKs.mv f g t)
def RO (K : PySem.W.Frag) (ι : List Addr) (H : Hp) (a : Addr) : MO → Prop
  | .lst xs => ∃ vs, H a = some (.lst vs) ∧ RVs K ι H xs vs
  | .ro xs => ∃ vs, (∃ o, H a = some (.frz o (.lst vs))) ∧ RVs K ι H xs vs
  | .dct kvs => ∃ ws, H a = some (.dK ws) ∧ RKs K ι H kvs ws
  | .dcT kvs => ∃ ws, H a = some (.dT ws) ∧ RKs K ι H kvs ws
  | .rdT kvs => ∃ ws, (∃ o, H a = some (.frz o (.dT ws))) ∧ RKs K ι H kvs ws
  | .ins C fs => ∃ dx ws, H a = some (.ins C dx ws) ∧ RKs K ι H fs ws
  | .exc c fs => ∃ C dx ws, PySem.W.nsIn K mainGlobals c = some (some (.ref C)) ∧ H a = some (XeO a (.ref C) dx) ∧ dx ∉ ι ∧ H dx = some (.xd ws) ∧ RKs K ι H fs ws
theorem RO.fut {K : PySem.W.Frag} {ι ι' : List Addr} {H H' : Hp} {a : Addr} {o : MO} (f : Fut K ι H ι' H') (e : H' a = H a) (h : RO K ι H a o) : RO K ι' H' a o := by
  cases o with
  | lst xs => obtain ⟨vs, h, r⟩ := h; exact ⟨vs, e.trans h, r.fut f⟩
  | ro xs => obtain ⟨vs, ⟨o, h⟩, r⟩ := h; exact ⟨vs, ⟨o, e.trans h⟩, r.fut f⟩
  | dct kvs => obtain ⟨ws, h, r⟩ := h; exact ⟨ws, e.trans h, r.fut f⟩
  | dcT kvs => obtain ⟨ws, h, r⟩ := h; exact ⟨ws, e.trans h, r.fut f⟩
  | rdT kvs => obtain ⟨ws, ⟨o, h⟩, r⟩ := h; exact ⟨ws, ⟨o, e.trans h⟩, r.fut f⟩
  | ins C fs => obtain ⟨dx, ws, h, r⟩ := h; exact ⟨dx, ws, e.trans h, r.fut f⟩
  | exc c fs =>
    obtain ⟨C, dx, ws, h0, h, h1, h2, r⟩ := h
    obtain ⟨h3, h4⟩ := f.hid dx (.xd ws) True.intro h1 h2
    exact ⟨C, dx, ws, h0, e.trans h, h3, h4, r.fut f⟩
theorem RO.mv {K : PySem.W.Frag} {ι ι' : List Addr} {H H' : Hp} {a : Addr} {o : MO} (f : ∀ (n : Nat) (a : Addr), ι[n]? = some a → ι'[n]? = some a) (g : ∀ (a : Addr) (xs : List V), TupP K H a xs → TupP K H' a xs) (x : ∀ d ws, d ∉ ι → H d = some (.xd ws) → d ∉ ι' ∧ H' d = some (.xd ws)) (e : H' a = H a) (h : RO K ι H a o) : RO K ι' H' a o := by
  cases o with
  | lst xs => obtain ⟨vs, h, r⟩ := h; exact ⟨vs, e.trans h, r.mv f g⟩
  | ro xs => obtain ⟨vs, ⟨o, h⟩, r⟩ := h; exact ⟨vs, ⟨o, e.trans h⟩, r.mv f g⟩
  | dct kvs => obtain ⟨ws, h, r⟩ := h; exact ⟨ws, e.trans h, r.mv f g⟩
  | dcT kvs => obtain ⟨ws, h, r⟩ := h; exact ⟨ws, e.trans h, r.mv f g⟩
  | rdT kvs => obtain ⟨ws, ⟨o, h⟩, r⟩ := h; exact ⟨ws, ⟨o, e.trans h⟩, r.mv f g⟩
  | ins C fs => obtain ⟨dx, ws, h, r⟩ := h; exact ⟨dx, ws, e.trans h, r.mv f g⟩
  | exc c fs =>
    obtain ⟨C, dx, ws, h0, h, h1, h2, r⟩ := h
    obtain ⟨h3, h4⟩ := x dx ws h1 h2
    exact ⟨C, dx, ws, h0, e.trans h, h3, h4, r.mv f g⟩
theorem RO.stands {K : PySem.W.Frag} {ι : List Addr} {H : Hp} {a : Addr} {o : MO} (h : RO K ι H a o) : ∃ u, H a = some u ∧ ∀ xs, u ≠ .tup xs ∧ ∀ ob, u ≠ .frz ob (.tup xs) := by
  cases o with
  | lst xs => obtain ⟨vs, h, r⟩ := h; exact ⟨_, h, fun _ => ⟨(by intro z; cases z), (by intro _ z; cases z)⟩⟩
  | ro xs => obtain ⟨vs, ⟨o, h⟩, r⟩ := h; exact ⟨_, h, fun _ => ⟨(by intro z; cases z), (by intro _ z; cases z)⟩⟩
  | dct kvs => obtain ⟨ws, h, r⟩ := h; exact ⟨_, h, fun _ => ⟨(by intro z; cases z), (by intro _ z; cases z)⟩⟩
  | dcT kvs => obtain ⟨ws, h, r⟩ := h; exact ⟨_, h, fun _ => ⟨(by intro z; cases z), (by intro _ z; cases z)⟩⟩
  | rdT kvs => obtain ⟨ws, ⟨o, h⟩, r⟩ := h; exact ⟨_, h, fun _ => ⟨(by intro z; cases z), (by intro _ z; cases z)⟩⟩
  | ins C fs => obtain ⟨dx, ws, h, r⟩ := h; exact ⟨_, h, fun _ => ⟨(by intro z; cases z), (by intro _ z; cases z)⟩⟩
  | exc c fs => obtain ⟨C, dx, ws, _, h, _⟩ := h; exact ⟨_, h, fun _ => ⟨(by intro z; cases z), (by intro _ z; cases z)⟩⟩

theorem RO.stands' {K : PySem.W.Frag} {ι : List Addr} {H : Hp} {a : Addr} {o : MO} (h : RO K ι H a o) : ∃ u, H a = some u ∧ True ∧ ∀ ps, u ≠ .tbl ps := by
  cases o with
  | lst xs => obtain ⟨vs, h, r⟩ := h; exact ⟨_, h, trivial, (by intro _ z; cases z)⟩
  | ro xs => obtain ⟨vs, ⟨o, h⟩, r⟩ := h; exact ⟨_, h, trivial, (by intro _ z; cases z)⟩
  | dct kvs => obtain ⟨ws, h, r⟩ := h; exact ⟨_, h, trivial, (by intro _ z; cases z)⟩
  | dcT kvs => obtain ⟨ws, h, r⟩ := h; exact ⟨_, h, trivial, (by intro _ z; cases z)⟩
  | rdT kvs => obtain ⟨ws, ⟨o, h⟩, r⟩ := h; exact ⟨_, h, trivial, (by intro _ z; cases z)⟩
  | ins C fs => obtain ⟨dx, ws, h, r⟩ := h; exact ⟨_, h, trivial, (by intro _ z; cases z)⟩
  | exc c fs => obtain ⟨C, dx, ws, _, h, _⟩ := h; exact ⟨_, h, trivial, (by intro _ z; cases z)⟩

structure RS (K : PySem.W.Frag) (ι : List Addr) (H : Hp) (S : Sto) : Prop where
  len : ι.length = S.length
  nd : ι.Nodup
  obj : ∀ (n : Nat) (o : MO), S[n]? = some o → ∃ a, ι[n]? = some a ∧ RO K ι H a o
  tab : ∀ P, Tabs.T P → ∃ ps : Array Value, H P = some (.tbl ps) ∧ TriplesOk ps.toList
  si : Tabs.since K ι H
structure RF (K : PySem.W.Frag) (ι : List Addr) (H : Hp) (fr : Fr) (σ : L2.St) : Prop where
  len : fr.length = σ.length
  at_ : ∀ (i : Nat) (p : PV), fr[i]? = some (some p) → ∃ v, σ[i]? = some (some v) ∧ RV K ι H p v
theorem RF.fut {K : PySem.W.Frag} {ι ι' : List Addr} {H H' : Hp} {fr : Fr} {σ : L2.St} (f : Fut K ι H ι' H') (r : RF K ι H fr σ) : RF K ι' H' fr σ :=
  ⟨r.len, fun i p e => let ⟨v, h1, h2⟩ := r.at_ i p e; ⟨v, h1, h2.fut f⟩⟩

section
variable {K : PySem.W.Frag} {ι : List Addr} {H : Hp} {S : Sto}
/-- two numbers, one address: one number -/
theorem RS.inj (r : RS K ι H S) {m n : Nat} {a : Addr} (h1 : ι[m]? = some a) (h2 : ι[n]? = some a) : m = n := by
  have l1 := (List.getElem?_eq_some_iff.mp h1)
  have l2 := (List.getElem?_eq_some_iff.mp h2)
  obtain ⟨p1, e1⟩ := l1
  obtain ⟨p2, e2⟩ := l2
  exact (List.getElem_inj r.nd).mp (e1.trans e2.symm)
theorem RS.there (r : RS K ι H S) {n : Nat} {o : MO} {a : Addr} (h : S[n]? = some o) (ha : ι[n]? = some a) : RO K ι H a o := by
  obtain ⟨b, h1, h2⟩ := r.obj n o h
  rw [ha] at h1; cases h1
  exact h2
/-- something new is laid that is no thing of the store -/
theorem fut_new {a : Addr} {o : HO} (hn : H a = none) : Fut K ι H ι (upd H a o) := ⟨fun _ _ h => h, fun b xs h => by
  rcases h with (h | ⟨ob, h⟩) | h
  · exact .inl (.inl (by rw [upd_ne (ne_of_none h hn)]; exact h))
  · exact .inl (.inr ⟨ob, by rw [upd_ne (ne_of_none h hn)]; exact h⟩)
  · exact .inr h, fun b o z h q => ⟨h, by rw [upd_ne (ne_of_none q hn)]; exact q⟩, fun b xs h => by rw [upd_ne (ne_of_none h hn)]; exact h, fun b ob o h => by rw [upd_ne (ne_of_none h hn)]; exact h⟩
theorem RS.new {a : Addr} {o : HO} (r : RS K ι H S) (hn : H a = none) : RS K ι (upd H a o) S := ⟨r.len, r.nd, fun n u e => by
  obtain ⟨b, h1, h2⟩ := r.obj n u e
  obtain ⟨w, hw, _⟩ := h2.stands
  exact ⟨b, h1, h2.fut (fut_new hn) (upd_ne (ne_of_none hw hn))⟩, fun P hP => let ⟨ps, e, t⟩ := r.tab P hP; ⟨ps, by rw [upd_ne (ne_of_none e hn)]; exact e, t⟩, Tabs.mono r.si (fut_new hn)⟩
/-- a new thing of the store -/
theorem fut_lay {a : Addr} {o : HO} (hn : H a = none) : Fut K ι H (ι ++ [a]) (upd H a o) :=
  ⟨fun n b h => by rw [List.getElem?_append_left (List.getElem?_eq_some_iff.mp h).1]; exact h, (fut_new (ι := ι) hn).tup,
    fun b o z h q => ⟨by simp only [List.mem_append, List.mem_singleton, not_or]; exact ⟨h, ne_of_none q hn⟩, by rw [upd_ne (ne_of_none q hn)]; exact q⟩, (fut_new (K := K) (ι := ι) hn).tt, (fut_new (K := K) (ι := ι) hn).fz⟩
theorem RS.fresh (r : RS K ι H S) {a : Addr} (hn : H a = none) : a ∉ ι := fun hm => by
  obtain ⟨n, hn', rfl⟩ := List.getElem_of_mem hm
  have hl : n < S.length := by rw [← r.len]; exact hn'
  obtain ⟨b, h1, h2⟩ := r.obj n S[n] (by simp [hl])
  rw [List.getElem?_eq_getElem hn'] at h1
  cases h1
  obtain ⟨w, hw, _⟩ := h2.stands
  rw [hn] at hw; cases hw
theorem RS.lay {a : Addr} {o : HO} {m : MO} (r : RS K ι H S) (hn : H a = none) (hm : RO K (ι ++ [a]) (upd H a o) a m) : RS K (ι ++ [a]) (upd H a o) (S ++ [m]) where
  len := by rw [List.length_append, List.length_append, r.len]; rfl
  nd := by
    rw [List.nodup_append]
    refine ⟨r.nd, by simp, fun x hx y hy => ?_⟩
    simp only [List.mem_singleton] at hy
    subst hy
    rintro rfl
    exact r.fresh hn hx
  obj := fun n u e => by
    by_cases hl : n < S.length
    · rw [List.getElem?_append_left hl] at e
      obtain ⟨b, h1, h2⟩ := r.obj n u e
      obtain ⟨w, hw, _⟩ := h2.stands
      exact ⟨b, (fut_lay (K := K) (o := o) hn).pre n b h1, h2.fut (fut_lay hn) (upd_ne (ne_of_none hw hn))⟩
    · have hl2 : n = S.length := by
        have := (List.getElem?_eq_some_iff.mp e).1
        rw [List.length_append, List.length_singleton] at this
        omega
      subst hl2
      rw [List.getElem?_append_right (Nat.le_refl _)] at e
      simp only [Nat.sub_self, List.getElem?_cons_zero, Option.some.injEq] at e
      subst e
      refine ⟨a, ?_, hm⟩
      rw [← r.len, List.getElem?_append_right (Nat.le_refl _)]
      simp
  tab := fun P hP => let ⟨ps, e, t⟩ := r.tab P hP; ⟨ps, by rw [upd_ne (ne_of_none e hn)]; exact e, t⟩
  si := Tabs.mono r.si (fut_lay hn)
/-- it can change -/
def MO.mut : MO → Bool
  | .ro _ => false
  | .rdT _ => false
  | _ => true
theorem RO.free {a : Addr} {m : MO} (h : RO K ι H a m) (hf : m.mut = true) : ∀ ob o, H a ≠ some (.frz ob o) := fun ob o e => by
  cases m with
  | ro _ => cases hf
  | rdT _ => cases hf
  | lst xs => obtain ⟨_, h, _⟩ := h; rw [e] at h; cases h
  | dct kvs => obtain ⟨_, h, _⟩ := h; rw [e] at h; cases h
  | dcT kvs => obtain ⟨_, h, _⟩ := h; rw [e] at h; cases h
  | ins C fs => obtain ⟨_, _, h, _⟩ := h; rw [e] at h; cases h
  | exc c fs => obtain ⟨_, _, _, _, h, _⟩ := h; rw [e] at h; cases h
theorem fut_upd (r : RS K ι H S) {n : Nat} {a : Addr} {m : MO} {o : HO} (ha : ι[n]? = some a) (hm : S[n]? = some m) (hf : m.mut = true := by rfl) : Fut K ι H ι (upd H a o) := ⟨fun _ _ h => h, fun b xs h => by
  obtain ⟨w, hw, hk⟩ := (r.there hm ha).stands
  rcases h with (h | ⟨ob, h⟩) | h
  · refine .inl (.inl ?_)
    rw [upd_ne (ne_of h hw (fun z => (hk xs).1 z.symm))]; exact h
  · refine .inl (.inr ⟨ob, ?_⟩)
    rw [upd_ne (ne_of h hw (fun z => (hk xs).2 ob z.symm))]; exact h
  · exact .inr h, fun b o z h q => ⟨h, by
    rw [upd_ne]
    · exact q
    · rintro rfl
      exact h (List.mem_of_getElem? ha)⟩, fun b xs h => by
  obtain ⟨w, hw, hk⟩ := (r.there hm ha).stands
  rw [upd_ne (ne_of h hw (fun z => (hk xs).1 z.symm))]; exact h, fun b ob u h => by
  have nf := (r.there hm ha).free hf ob u
  rw [upd_ne (fun z => by subst z; exact nf h)]; exact h⟩
theorem RS.upd (r : RS K ι H S) {n : Nat} {a : Addr} {m m' : MO} {o : HO} (ha : ι[n]? = some a) (hm : S[n]? = some m) (hm' : RO K ι (L2.upd H a o) a m') (hf : m.mut = true := by rfl) : RS K ι (L2.upd H a o) (S.set n m') where
  len := by rw [List.length_set]; exact r.len
  nd := r.nd
  obj := fun k u e => by
    by_cases hk : k = n
    · subst hk
      have hl := (List.getElem?_eq_some_iff.mp hm).1
      rw [List.getElem?_set_self hl] at e
      cases e
      exact ⟨a, ha, hm'⟩
    · rw [List.getElem?_set_ne (Ne.symm hk)] at e
      obtain ⟨b, h1, h2⟩ := r.obj k u e
      refine ⟨b, h1, h2.fut (fut_upd r ha hm hf) (upd_ne ?_)⟩
      rintro rfl
      exact hk (r.inj h1 ha)
  tab := fun P hP => by
    obtain ⟨ps, e, t⟩ := r.tab P hP
    obtain ⟨w, hw, _, hk⟩ := (r.there hm ha).stands'
    exact ⟨ps, by rw [upd_ne (ne_of e hw (fun z => hk ps z.symm))]; exact e, t⟩
  si := Tabs.mono r.si (fut_upd r ha hm hf)
end

/-! ### plain readings, lifted -/
def tE (K : PySem.W.Frag) (f : WE) : TE := fun σ H Q => ∃ (ι : List Addr) (fr : Fr) (S : Sto) (Qp : Post), RF K ι H fr σ ∧ RS K ι H S ∧ f fr S Qp ∧
  ∀ (ι' : List Addr) (H' : Hp) (S' : Sto) (p : PV) (v : V), Fut K ι H ι' H' → RS K ι' H' S' → RV K ι' H' p v → Qp p S' → Q v H'
def tT (K : PySem.W.Frag) (f : WT) : TT := fun σ H Q => ∃ (ι : List Addr) (fr : Fr) (S : Sto) (Qp : Bool → Sto → Prop), RF K ι H fr σ ∧ RS K ι H S ∧ f fr S Qp ∧
  ∀ (ι' : List Addr) (H' : Hp) (S' : Sto) (b : Bool), Fut K ι H ι' H' → RS K ι' H' S' → Qp b S' → Q b H'
def tA (K : PySem.W.Frag) (f : WA) : TA := fun σ H Q => ∃ (ι : List Addr) (fr : Fr) (S : Sto) (Qp : List PV → Sto → Prop), RF K ι H fr σ ∧ RS K ι H S ∧ f fr S Qp ∧
  ∀ (ι' : List Addr) (H' : Hp) (S' : Sto) (ps : List PV) (vs : List V), Fut K ι H ι' H' → RS K ι' H' S' → RVs K ι' H' ps vs → Qp ps S' → Q vs H'
structure LD (K : PySem.W.Frag) (ι : List Addr) (H : Hp) (P : PD) (D : Ends) : Prop where
  nx : ∀ (ι' : List Addr) (H' : Hp) (S' : Sto) (fr' : Fr) (σ' : L2.St), Fut K ι H ι' H' → RS K ι' H' S' → RF K ι' H' fr' σ' → P.nx fr' S' → D.nx σ' H'
  rt : ∀ (ι' : List Addr) (H' : Hp) (S' : Sto) (p : PV) (v : V), Fut K ι H ι' H' → RS K ι' H' S' → RV K ι' H' p v → P.rt p S' → D.rt v H'
  bk : ∀ (ι' : List Addr) (H' : Hp) (S' : Sto) (fr' : Fr) (σ' : L2.St), Fut K ι H ι' H' → RS K ι' H' S' → RF K ι' H' fr' σ' → P.bk fr' S' → D.bk σ' H'
  ct : ∀ (ι' : List Addr) (H' : Hp) (S' : Sto) (fr' : Fr) (σ' : L2.St), Fut K ι H ι' H' → RS K ι' H' S' → RF K ι' H' fr' σ' → P.ct fr' S' → D.ct σ' H'
theorem LD.fut {K : PySem.W.Frag} {ι ι1 : List Addr} {H H1 : Hp} {P : PD} {D : Ends} (l : LD K ι H P D) (f : Fut K ι H ι1 H1) : LD K ι1 H1 P D :=
  ⟨fun ι' H' S' fr' σ' g => l.nx ι' H' S' fr' σ' (f.trans g), fun ι' H' S' p v g => l.rt ι' H' S' p v (f.trans g), fun ι' H' S' fr' σ' g => l.bk ι' H' S' fr' σ' (f.trans g), fun ι' H' S' fr' σ' g => l.ct ι' H' S' fr' σ' (f.trans g)⟩
def tS (K : PySem.W.Frag) (f : WS) : TS := fun D σ H => ∃ (ι : List Addr) (fr : Fr) (S : Sto) (P : PD), RF K ι H fr σ ∧ RS K ι H S ∧ f P fr S ∧ LD K ι H P D

structure JE (X : Cx) (e : Expr) (f : WE) : Prop where
  pe : PE X e (tE X.K f)
structure JT (X : Cx) (e : Expr) (f : WT) : Prop where
  pt : PT X e (tT X.K f)
structure JW (X : Cx) (e : Expr) (f : WT) : Prop where
  pw : PW X e (tT X.K f)
structure JA (X : Cx) (es : List Expr) (f : WA) : Prop where
  pa : PA X es (tA X.K f)
structure JS (X : Cx) (st : Stmt) (f : WS) : Prop where
  ps : PS X st (tS X.K f)
structure JSs (X : Cx) (st : List Stmt) (f : WS) : Prop where
  pss : PSs X st (tS X.K f)
theorem JW.jt {X : Cx} {e : Expr} {f : WT} (h : JW X e f) : JT X e f := ⟨h.pw.pt⟩

theorem pe_imp {X : Cx} {e : Expr} {t t' : TE} (h : PE X e t) (i : ∀ σ H Q, t' σ H Q → t σ H Q) : PE X e t' := fun pins s σ H Q I q => h pins s σ H Q I (i σ H Q q)
theorem pt_imp {X : Cx} {e : Expr} {t t' : TT} (h : PT X e t) (i : ∀ σ H Q, t' σ H Q → t σ H Q) : PT X e t' := fun pins s σ H Q I q => h pins s σ H Q I (i σ H Q q)
theorem pw_imp {X : Cx} {e : Expr} {t t' : TT} (h : PW X e t) (i : ∀ σ H Q, t' σ H Q → t σ H Q) : PW X e t' := fun wh pins s σ H Q I q => h wh pins s σ H Q I (i σ H Q q)
theorem pa_imp {X : Cx} {e : List Expr} {t t' : TA} (h : PA X e t) (i : ∀ σ H Q, t' σ H Q → t σ H Q) : PA X e t' := fun pos pins s σ H Q I q => h pos pins s σ H Q I (i σ H Q q)
theorem ps_imp {X : Cx} {e : Stmt} {t t' : TS} (h : PS X e t) (i : ∀ D σ H, t' D σ H → t D σ H) : PS X e t' := fun pins s σ H D I q => h pins s σ H D I (i D σ H q)
theorem pss_imp {X : Cx} {e : List Stmt} {t t' : TS} (h : PSs X e t) (i : ∀ D σ H, t' D σ H → t D σ H) : PSs X e t' := fun pins s σ H D I q => h pins s σ H D I (i D σ H q)

/-! ### names and constants -/
def wVar (i : Nat) : WE := fun fr S Q => ∃ p, fr[i]? = some (some p) ∧ Q p S
def wC (p : PV) : WE := fun _ S Q => Q p S
section
variable {X : Cx} {pos : Pos}
theorem jv (i : Nat) {x : Str} (hN : X.N[i]? = some x := by rfl) (hv : Vis X.env.scope x := by first | exact Or.inl rfl | exact Or.inr (Or.inl rfl) | exact Or.inr (Or.inr rfl)) (hd : (x == ("__debug__" : Str)) = false := by decide)
    (hcd : (x == ("__classdict__" : Str)) = false := by decide) : JE X (.Name x pos) (wVar i) := ⟨pe_imp (pe_var hN hv hd hcd) fun σ H Q ⟨ι, fr, S, Qp, hF, hS, ⟨p, e, q⟩, k⟩ => by
  obtain ⟨v, h1, h2⟩ := hF.at_ i p e
  exact ⟨v, h1, k ι H S p v .refl hS h2 q⟩⟩
theorem jc {e : Expr} {p : PV} {v : V} (h : PE X e (tC v)) (r : ∀ K ι H, RV K ι H p v) : JE X e (wC p) := ⟨pe_imp h fun σ H Q ⟨ι, fr, S, Qp, hF, hS, q, k⟩ => k ι H S p v .refl hS (r _ _ _) q⟩
theorem j_int {i j} : JE X (.Constant (.int i) j pos) (wC (.int i)) := jc pe_int fun _ _ _ => .int i
theorem j_bl {b j} : JE X (.Constant (.bool b) j pos) (wC (.bl b)) := jc pe_bl fun _ _ _ => .bl b
theorem j_non {j} : JE X (.Constant .none j pos) (wC .non) := jc pe_non fun _ _ _ => .non
theorem j_str {x j} : JE X (.Constant (.str x) j pos) (wC (.str x)) := jc pe_str fun _ _ _ => .str x
end

/-! ### operations -/
abbrev P2 := PV → PV → Sto → Post → Prop
def wOp (r : P2) (fa fb : WE) : WE := fun fr S Q => fa fr S fun x S1 => fb fr S1 fun y S2 => r x y S2 Q
/-- a plain operation is kept by one on values -/
def Kp2 (K : PySem.W.Frag) (r : P2) (q : R2) : Prop := ∀ (ι : List Addr) (H : Hp) (S : Sto) (x y : PV) (v w : V) (Qp : Post) (Q : VK), RS K ι H S → RV K ι H x v → RV K ι H y w → r x y S Qp →
  (∀ ι' H' S' p v, Fut K ι H ι' H' → RS K ι' H' S' → RV K ι' H' p v → Qp p S' → Q v H') → q v w H Q
theorem tOp_of {K : PySem.W.Frag} {r : P2} {q : R2} {fa fb : WE} (h : Kp2 K r q) : ∀ σ H Q, tE K (wOp r fa fb) σ H Q → tOp q (tE K fa) (tE K fb) σ H Q :=
  fun σ H Q ⟨ι, fr, S, Qp, hF, hS, hf, k⟩ => ⟨ι, fr, S, _, hF, hS, hf, fun ι1 H1 S1 x v f1 s1 r1 g => ⟨ι1, fr, S1, _, hF.fut f1, s1, g, fun ι2 H2 S2 y w f2 s2 r2 g2 =>
    h ι2 H2 S2 x y v w Qp Q s2 (r1.fut f2) r2 g2 fun ι' H' S' p u f3 => k ι' H' S' p u ((f1.trans f2).trans f3)⟩⟩
def Kp1 (K : PySem.W.Frag) (r : PV → Sto → Post → Prop) (q : V → Hp → VK → Prop) : Prop := ∀ (ι : List Addr) (H : Hp) (S : Sto) (x : PV) (v : V) (Qp : Post) (Q : VK), RS K ι H S → RV K ι H x v → r x S Qp →
  (∀ ι' H' S' p v, Fut K ι H ι' H' → RS K ι' H' S' → RV K ι' H' p v → Qp p S' → Q v H') → q v H Q
def wUn (r : PV → Sto → Post → Prop) (fa : WE) : WE := fun fr S Q => fa fr S fun x S1 => r x S1 Q
theorem tUn_of {K : PySem.W.Frag} {r : PV → Sto → Post → Prop} {q : V → Hp → VK → Prop} {fa : WE} (h : Kp1 K r q) : ∀ σ H Q, tE K (wUn r fa) σ H Q → tUn q (tE K fa) σ H Q :=
  fun σ H Q ⟨ι, fr, S, Qp, hF, hS, hf, k⟩ => ⟨ι, fr, S, _, hF, hS, hf, fun ι1 H1 S1 x v f1 s1 r1 g => h ι1 H1 S1 x v Qp Q s1 r1 g fun ι' H' S' p u f3 => k ι' H' S' p u (f1.trans f3)⟩
/-- two rules for one operation -/
theorem OpR.or {X : Cx} {f : Value → Value → Sem Value} {r q : R2} (h1 : OpR X f r) (h2 : OpR X f q) : OpR X f (fun x y H Q => r x y H Q ∨ q x y H Q) := fun pins s σ H x y v u Q I rx ry h => by
  rcases h with h | h
  · exact h1 pins s σ H x y v u Q I rx ry h
  · exact h2 pins s σ H x y v u Q I rx ry h
/-- a binary operation that is kept: the rule, and how the plain one goes to it -/
structure O2 (X : Cx) (f : Value → Value → Sem Value) (r : P2) : Prop where
  ex : ∃ q : R2, OpR X f q ∧ Kp2 X.K r q
theorem O2.or {X : Cx} {f : Value → Value → Sem Value} {r r' : P2} (h1 : O2 X f r) (h2 : O2 X f r') : O2 X f (fun x y S Q => r x y S Q ∨ r' x y S Q) := by
  obtain ⟨q, a, b⟩ := h1.ex
  obtain ⟨q', a', b'⟩ := h2.ex
  exact ⟨_, OpR.or a a', fun ι H S x y v w Qp Q s rx ry h k => by
    rcases h with h | h
    · exact .inl (b ι H S x y v w Qp Q s rx ry h k)
    · exact .inr (b' ι H S x y v w Qp Q s rx ry h k)⟩
theorem O2.imp {X : Cx} {f : Value → Value → Sem Value} {r r' : P2} (h : O2 X f r) (i : ∀ x y S Q, r' x y S Q → r x y S Q) : O2 X f r' := by
  obtain ⟨q, a, b⟩ := h.ex
  exact ⟨q, a, fun ι H S x y v w Qp Q s rx ry z k => b ι H S x y v w Qp Q s rx ry (i _ _ _ _ z) k⟩
section
variable {X : Cx} {a b : Expr} {fa fb : WE} {pos : Pos}
theorem j_op {op : Operator} {r : P2} (ho : O2 X (binaryOp op) r) (ha : JE X a fa) (hb : JE X b fb) : JE X (.BinOp a op b pos) (wOp r fa fb) := by
  obtain ⟨q, h1, h2⟩ := ho.ex
  exact ⟨pe_imp (pe_op h1 ha.pe hb.pe) (tOp_of h2)⟩
theorem j_cmp {op : CmpOp} {r : P2} (ho : O2 X (compareOp op) r) (ha : JE X a fa) (hb : JE X b fb) (hm : behindInMarks op b = false) : JE X (.Compare a [op] [b] pos) (wOp r fa fb) := by
  obtain ⟨q, h1, h2⟩ := ho.ex
  exact ⟨pe_imp (pe_cmpR h1 ha.pe hb.pe hm) (tOp_of h2)⟩
theorem tTest_of {K : PySem.W.Frag} {f : WE} : ∀ σ H Q, tT K (fun fr S Q => f fr S fun x S1 => ∃ k, x = .bl k ∧ Q k S1) σ H Q → tTest (tE K f) σ H Q :=
  fun σ H Q ⟨ι, fr, S, Qp, hF, hS, hf, k⟩ => ⟨ι, fr, S, _, hF, hS, hf, fun ι1 H1 S1 x v f1 s1 r1 ⟨b, e, g⟩ => by
    subst e
    cases r1
    exact ⟨b, rfl, k ι1 H1 S1 b f1 s1 g⟩⟩
/-- a value that is True or False, as a test -/
def wB (f : WE) : WT := fun fr S Q => f fr S fun x S1 => ∃ k, x = .bl k ∧ Q k S1
theorem tTest_imp {t t' : TE} (i : ∀ σ H Q, t' σ H Q → t σ H Q) : ∀ σ H Q, tTest t' σ H Q → tTest t σ H Q := fun σ H Q h => i σ H _ h
theorem jt_cmp {op : CmpOp} {r : P2} (ho : O2 X (compareOp op) r) (ha : JE X a fa) (hb : JE X b fb) (hm : behindInMarks op b = false) : JT X (.Compare a [op] [b] pos) (wB (wOp r fa fb)) := by
  obtain ⟨q, h1, h2⟩ := ho.ex
  exact ⟨pt_imp (pt_cmpR h1 ha.pe hb.pe hm) fun σ H Q h => tTest_imp (tOp_of h2) σ H Q (tTest_of σ H Q h)⟩
end
end M

namespace M
open PySem PySem.Spec PyProof.Rows L2
variable [Tabs]

/-- a list of the store, as it is read -/
def SL (S : Sto) (n : Nat) (xs : List PV) : Prop := S[n]? = some (.lst xs) ∨ S[n]? = some (.ro xs)
theorem RS.sl {K : PySem.W.Frag} {ι : List Addr} {H : Hp} {S : Sto} {n : Nat} {a : Addr} {xs : List PV} (r : RS K ι H S) (ha : ι[n]? = some a) (h : SL S n xs) : ∃ vs, SqL K H a vs ∧ RVs K ι H xs vs := by
  rcases h with h | h
  · obtain ⟨vs, h1, h2⟩ := r.there h ha
    exact ⟨vs, .of h1, h2⟩
  · obtain ⟨vs, ⟨o, h1⟩, h2⟩ := r.there h ha
    exact ⟨vs, .inl (.inr ⟨o, h1⟩), h2⟩
theorem RS.ls {K : PySem.W.Frag} {ι : List Addr} {H : Hp} {S : Sto} {n : Nat} {a : Addr} {xs : List PV} (r : RS K ι H S) (ha : ι[n]? = some a) (h : S[n]? = some (.lst xs)) : ∃ vs, H a = some (.lst vs) ∧ RVs K ι H xs vs := r.there h ha

/-! ### ints -/
def pI (C : Int → Int → Prop) (g : Int → Int → PV) : P2 := fun x y S Q => ∃ i j, x = .int i ∧ y = .int j ∧ C i j ∧ Q (g i j) S
def pI0 (g : Int → Int → PV) : P2 := fun x y S Q => ∃ i j, x = .int i ∧ y = .int j ∧ Q (g i j) S
section
variable {X : Cx} {f : Value → Value → Sem Value}
theorem o_I {C : Int → Int → Prop} {g : Int → Int → PV} {g' : Int → Int → V} (h : OpR X f (rI C g')) (r : ∀ i j K ι H, RV K ι H (g i j) (g' i j)) : O2 X f (pI C g) := ⟨_, h, fun ι H S x y v w Qp Q s rx ry h k => by
  obtain ⟨i, j, rfl, rfl, c, q⟩ := h
  cases rx; cases ry
  exact ⟨i, j, rfl, rfl, c, k ι H S _ _ .refl s (r i j _ _ _) q⟩⟩
theorem o_I0 {g : Int → Int → PV} {g' : Int → Int → V} (h : OpR X f (rI0 g')) (r : ∀ i j K ι H, RV K ι H (g i j) (g' i j)) : O2 X f (pI0 g) := ⟨_, h, fun ι H S x y v w Qp Q s rx ry h k => by
  obtain ⟨i, j, rfl, rfl, q⟩ := h
  cases rx; cases ry
  exact ⟨i, j, rfl, rfl, k ι H S _ _ .refl s (r i j _ _ _) q⟩⟩
end
/-- two ints, by their numbers -/
def onI (g : Int → Int → Sto → Post → Prop) : P2
  | .int i, .int j, S, Q => g i j S Q
  | _, _, _, _ => False
theorem onI_pI {C : Int → Int → Prop} {g : Int → Int → PV} : ∀ x y S Q, onI (fun i j S Q => C i j ∧ Q (g i j) S) x y S Q → pI C g x y S Q := by
  intro x y S Q h
  cases x <;> cases y <;> first | exact h.elim | exact ⟨_, _, rfl, rfl, h.1, h.2⟩
theorem onI_pI0 {g : Int → Int → PV} : ∀ x y S Q, onI (fun i j S Q => Q (g i j) S) x y S Q → pI0 g x y S Q := by
  intro x y S Q h
  cases x <;> cases y <;> first | exact h.elim | exact ⟨_, _, rfl, rfl, h⟩

def bMul : P2 := onI fun i j S Q => CMul i j ∧ Q (.int (i * j)) S
def bFdiv : P2 := onI fun i j S Q => CDiv i j ∧ Q (.int (i / j)) S
def bMod : P2 := onI fun i j S Q => 0 < j ∧ Q (.int (i % j)) S
def bPow : P2 := onI fun i j S Q => CPow i j ∧ Q (.int (i ^ j.toNat)) S
def bShr : P2 := onI fun i j S Q => 0 ≤ j ∧ Q (.int (i / 2 ^ j.toNat)) S
def bAnd : P2 := onI fun i j S Q => Q (.int (Builtin.bitAnd i j)) S
section
variable {X : Cx}
theorem o_mul : O2 X (binaryOp .Mult) bMul := (o_I op_mul fun _ _ _ _ _ => .int _).imp onI_pI
theorem o_fdiv : O2 X (binaryOp .FloorDiv) bFdiv := (o_I op_fdiv fun _ _ _ _ _ => .int _).imp onI_pI
theorem o_mod : O2 X (binaryOp .Mod) bMod := (o_I op_mod fun _ _ _ _ _ => .int _).imp onI_pI
theorem o_pow : O2 X (binaryOp .Pow) bPow := (o_I op_pow fun _ _ _ _ _ => .int _).imp onI_pI
theorem o_shr : O2 X (binaryOp .RShift) bShr := (o_I op_shr fun _ _ _ _ _ => .int _).imp onI_pI
theorem o_and : O2 X (binaryOp .BitAnd) bAnd := (o_I0 op_and fun _ _ _ _ _ => .int _).imp onI_pI0
end

/-! ### + -/
/-- t + u of tuples, any -/
def rCatA (K : PySem.W.Frag) : R2 := fun x y H Q => ∃ a b xs ys, x = .ref a ∧ y = .ref b ∧ SqT K H a xs ∧ SqT K H b ys ∧ xs.length + ys.length ≤ sizeLine ∧
  (xs = [] → Q (.ref b) H) ∧ (ys = [] → Q (.ref a) H) ∧ (∀ p, H p = none → Q (.ref p) (upd H p (.tup (xs ++ ys))))
theorem op_catA {X : Cx} : OpR X (binaryOp .Add) (rCatA X.K) := by
  intro pins s σ H x y v u Q I rx ry h
  obtain ⟨a, b, xs, ys, rfl, rfl, ha, hb, hz, q0, q1, q2⟩ := h
  by_cases hx : xs = []
  · cases rx
    cases ry
    obtain ⟨its, r1, p1, _⟩ := I.tuple ha
    obtain ⟨its2, r2, p2, _⟩ := I.tuple hb
    have e : its = [] := r1.nil_iff.mpr hx
    obtain ⟨⟨cls, dd, data, sl⟩, ho, hc, n, hd⟩ := id p1
    obtain ⟨⟨cls2, dd2, data2, sl2⟩, ho2, hc2, n2, hd2⟩ := id p2
    simp only at hc hd hc2 hd2
    subst hc hd hc2 hd2
    exact concat_meets ⟨_, ho, rfl⟩ ⟨_, ho2, rfl⟩ noFill_tuple_add seq_tuple_add PySem.F.slot_tuple_add PySem.F.entry_tuple_add (PySem.F.args_tuple_add_2 _ _)
      (tuple_addW0 a b its.toArray its2.toArray n n2 dd dd2 sl sl2 (by simp [e])) ⟨ho, ho2, ⟨.ref b, H, I, rfl, q0 hx⟩⟩
  · exact op_catT pins s σ H (.ref a) (.ref b) v u Q I rx ry ⟨a, b, xs, ys, rfl, rfl, ha, hb, hx, hz, q1, fun _ => q2⟩
def bAdd : P2
  | .int i, .int j, S, Q => Q (.int (i + j)) S
  | .str a, .str b, S, Q => a.length + b.length ≤ sizeLine ∧ Q (.str (a ++ b)) S
  | .tup xs, .tup ys, S, Q => xs.length + ys.length ≤ sizeLine ∧ Q (.tup (xs ++ ys)) S
  | .ref m, .ref n, S, Q => ∃ xs ys, S[m]? = some (.lst xs) ∧ S[n]? = some (.lst ys) ∧ xs.length + ys.length ≤ sizeLine ∧ Q (.ref S.length) (S ++ [.lst (xs ++ ys)])
  | _, _, _, _ => False
theorem RS.last {K : PySem.W.Frag} {ι : List Addr} {H : Hp} {S : Sto} (r : RS K ι H S) (a : Addr) : (ι ++ [a])[S.length]? = some a := by
  rw [← r.len, List.getElem?_append_right (Nat.le_refl _)]; simp
/-- a new list -/
theorem new_list {K : PySem.W.Frag} {ι : List Addr} {H : Hp} {S : Sto} {xs : List PV} {vs : List V} {Qp : Post} {Q : VK} (s : RS K ι H S) (r : RVs K ι H xs vs)
    (k : ∀ ι' H' S' p v, Fut K ι H ι' H' → RS K ι' H' S' → RV K ι' H' p v → Qp p S' → Q v H') (q : Qp (.ref S.length) (S ++ [.lst xs])) : ∀ p, H p = none → Q (.ref p) (upd H p (.lst vs)) := fun p hp =>
  k (ι ++ [p]) _ (S ++ [.lst xs]) (.ref S.length) _ (fut_lay hp) (s.lay (m := .lst xs) hp ⟨vs, upd_same, r.fut (fut_lay hp)⟩) (.ref (s.last p)) q
/-- a new tuple -/
theorem new_tup {K : PySem.W.Frag} {ι : List Addr} {H : Hp} {S : Sto} {xs : List PV} {vs : List V} {Qp : Post} {Q : VK} (s : RS K ι H S) (r : RVs K ι H xs vs)
    (k : ∀ ι' H' S' p v, Fut K ι H ι' H' → RS K ι' H' S' → RV K ι' H' p v → Qp p S' → Q v H') (q : Qp (.tup xs) S) : ∀ p, H p = none → Q (.ref p) (upd H p (.tup vs)) := fun p hp =>
  k ι _ S (.tup xs) _ (fut_new hp) (s.new hp) (.tup (.of upd_same) (r.fut (fut_new hp))) q
theorem o_add {X : Cx} : O2 X (binaryOp .Add) bAdd := by
  refine ⟨_, OpR.or op_add (OpR.or op_add_str (OpR.or op_catA op_cat)), fun ι H S x y v w Qp Q s rx ry h k => ?_⟩
  cases x <;> cases y <;> first | exact h.elim | skip
  · cases rx; cases ry
    exact .inl ⟨_, _, rfl, rfl, k ι H S _ _ .refl s (.int _) h⟩
  · cases rx; cases ry
    exact .inr (.inl ⟨_, _, rfl, rfl, h.1, k ι H S _ _ .refl s (.str _) h.2⟩)
  · cases rx with
    | tup ha ra =>
      cases ry with
      | tup hb rb =>
        refine .inr (.inr (.inl ⟨_, _, _, _, rfl, rfl, ha.sq, hb.sq, by rw [← ra.length, ← rb.length]; exact h.1, fun e => ?_, fun e => ?_, new_tup s (ra.append rb) k h.2⟩))
        · subst e
          cases ra
          exact k ι H S _ _ .refl s (.tup hb rb) h.2
        · subst e
          cases rb
          refine k ι H S _ _ .refl s (.tup ha ra) ?_
          have := h.2
          rwa [List.append_nil] at this
  · cases rx with
    | ref ha =>
      cases ry with
      | ref hb =>
        obtain ⟨xs, ys, h1, h2, hz, q⟩ := h
        obtain ⟨vs, e1, r1⟩ := s.ls ha h1
        obtain ⟨ws, e2, r2⟩ := s.ls hb h2
        exact .inr (.inr (.inr ⟨_, _, vs, ws, rfl, rfl, e1, e2, by rw [← r1.length, ← r2.length]; exact hz, new_list s (r1.append r2) k q⟩))
end M

namespace M
open PySem PySem.Spec PyProof.Rows L2
variable [Tabs]

/-! ### what is written out of a plain value -/
mutual
inductive PDt (S : Sto) : PV → PyData → Prop
  | non : PDt S .non .none
  | bl (b : Bool) : PDt S (.bl b) (.bool b)
  | int (i : Int) : PDt S (.int i) (.int i)
  | str (x : Str) : PDt S (.str x) (.str x)
  | tup {xs : List PV} {ds : List PyData} : PDts S xs ds → PDt S (.tup xs) (.tuple ds)
  | lst {n : Nat} {xs : List PV} {ds : List PyData} : SL S n xs → PDts S xs ds → PDt S (.ref n) (.list ds)
inductive PDts (S : Sto) : List PV → List PyData → Prop
  | nil : PDts S [] []
  | cons {p : PV} {ps : List PV} {d : PyData} {ds : List PyData} : PDt S p d → PDts S ps ds → PDts S (p :: ps) (d :: ds)
end
section
variable {K : PySem.W.Frag} {ι : List Addr} {H : Hp} {S : Sto}
mutual
theorem PDt.dp (r : RS K ι H S) : ∀ {p : PV} {d : PyData} {v : V}, PDt S p d → RV K ι H p v → Dp K H v d
  | _, _, _, .non, .non => .non
  | _, _, _, .bl b, .bl _ => .bl b
  | _, _, _, .int i, .int _ => .int i
  | _, _, _, .str x, .str _ => .str x
  | _, _, _, .tup h, .tup hs rs => .tup hs.sq (PDts.dp r h rs)
  | _, _, _, .lst hl h, .ref ha => by
    obtain ⟨vs, h1, h2⟩ := r.sl ha hl
    exact .lst h1 (PDts.dp r h h2)
theorem PDts.dp (r : RS K ι H S) : ∀ {ps : List PV} {ds : List PyData} {vs : List V}, PDts S ps ds → RVs K ι H ps vs → DpAll K H vs ds
  | _, _, _, .nil, .nil => .nil
  | _, _, _, .cons h t, .cons r1 r2 => .cons (PDt.dp r h r1) (PDts.dp r t r2)
end
end

/-! ### == and != -/
def bEqD (neg : Bool) : P2 := fun x y S Q => ∃ d e, PDt S x d ∧ PDt S y e ∧ SeqAt.shaped d = true ∧ SeqAt.shaped e = true ∧ Q (.bl (if neg then !PyData.eqv d e else PyData.eqv d e)) S
def bEq (neg : Bool) : P2
  | .int i, .int j, S, Q => Q (.bl (decide (i = j) ^^ neg)) S
  | .str a, .str b, S, Q => Q (.bl (decide (a = b) ^^ neg)) S
  | .bl a, .bl b, S, Q => Q (.bl (decide (a = b) ^^ neg)) S
  | x, y, S, Q => bEqD neg x y S Q
theorem dec_int (i j : Int) : decide (V.int i = V.int j) = decide (i = j) := by
  by_cases h : i = j
  · subst h; simp
  · rw [decide_eq_false h, decide_eq_false]; intro z; exact h (V.int.inj z)
theorem dec_str (i j : Str) : decide (V.str i = V.str j) = decide (i = j) := by
  by_cases h : i = j
  · subst h; simp
  · rw [decide_eq_false h, decide_eq_false]; intro z; exact h (V.str.inj z)
theorem dec_bl (i j : Bool) : decide (V.bl i = V.bl j) = decide (i = j) := by cases i <;> cases j <;> rfl
theorem Kp_eqD {K : PySem.W.Frag} : Kp2 K (bEqD false) (rEqD K) := fun ι H S x y v w Qp Q s rx ry ⟨d, e, h1, h2, s1, s2, q⟩ k =>
  ⟨d, e, h1.dp s rx, h2.dp s ry, s1, s2, k ι H S _ _ .refl s (.bl _) q⟩
theorem Kp_neD {K : PySem.W.Frag} : Kp2 K (bEqD true) (rNeD K) := fun ι H S x y v w Qp Q s rx ry ⟨d, e, h1, h2, s1, s2, q⟩ k =>
  ⟨d, e, h1.dp s rx, h2.dp s ry, s1, s2, k ι H S _ _ .refl s (.bl _) q⟩
theorem o_eq {X : Cx} (hu : X.A.units + 64 < cLine) : O2 X (compareOp .Eq) (bEq false) := by
  refine ⟨_, OpR.or op_eq (op_eqD hu), fun ι H S x y v w Qp Q s rx ry h k => ?_⟩
  cases x <;> cases y <;> first
    | exact .inr (Kp_eqD ι H S _ _ v w Qp Q s rx ry h k)
    | (cases rx; cases ry
       refine .inl ⟨rfl, ?_⟩
       first | rw [dec_int] | rw [dec_str] | rw [dec_bl]
       refine k ι H S _ _ .refl s (.bl _) ?_
       have q : Qp (.bl (_ ^^ false)) S := h
       rwa [Bool.xor_false] at q)
theorem o_ne {X : Cx} (hu : X.A.units + 64 < cLine) : O2 X (compareOp .NotEq) (bEq true) := by
  refine ⟨_, OpR.or op_ne (op_neD hu), fun ι H S x y v w Qp Q s rx ry h k => ?_⟩
  cases x <;> cases y <;> first
    | exact .inr (Kp_neD ι H S _ _ v w Qp Q s rx ry h k)
    | (cases rx; cases ry
       refine .inl ⟨rfl, ?_⟩
       first | rw [dec_int] | rw [dec_str] | rw [dec_bl]
       refine k ι H S _ _ .refl s (.bl _) ?_
       have q : Qp (.bl (_ ^^ true)) S := h
       rwa [Bool.xor_true] at q)

/-! ### < and the like -/
def bLt : P2
  | .int i, .int j, S, Q => Q (.bl (decide (i < j))) S
  | .tup xs, .tup ys, S, Q => ∃ ns ms, xs = ns.map PV.int ∧ ys = ms.map PV.int ∧ Q (.bl (HT.lexLt ns ms)) S
  | .str a, .str b, S, Q => Q (.bl (decide (a.cps.toList < b.cps.toList))) S
  | _, _, _, _ => False
theorem RVs.ints_of {K : PySem.W.Frag} {ι : List Addr} {H : Hp} : ∀ {ns : List Int} {vs : List V}, RVs K ι H (ns.map PV.int) vs → vs = ns.map V.int
  | [], _, r => by cases r; rfl
  | n :: ns, _, r => by
    rw [List.map_cons] at r
    cases r with
    | cons r t => cases r; rw [RVs.ints_of t]; rfl
theorem o_lt {X : Cx} (hu : X.A.units < cLine) : O2 X (compareOp .Lt) bLt := by
  refine ⟨_, OpR.or op_lt (OpR.or (op_ltT hu) op_lt_str), fun ι H S x y v w Qp Q s rx ry h k => ?_⟩
  cases x <;> cases y <;> first | exact h.elim | skip
  · cases rx; cases ry
    exact .inl ⟨_, _, rfl, rfl, k ι H S _ _ .refl s (.bl _) h⟩
  · cases rx; cases ry
    exact .inr (.inr ⟨_, _, rfl, rfl, k ι H S _ _ .refl s (.bl _) h⟩)
  · obtain ⟨ns, ms, rfl, rfl, q⟩ := h
    cases rx with
    | tup ha ra =>
      cases ry with
      | tup hb rb =>
        rw [ra.ints_of] at ha
        rw [rb.ints_of] at hb
        exact .inr (.inl ⟨_, _, ns, ms, rfl, rfl, ha.sq, hb.sq, k ι H S _ _ .refl s (.bl _) q⟩)
def bLe : P2 := onI fun i j S Q => Q (.bl (decide (i ≤ j))) S
def bGt : P2 := onI fun i j S Q => Q (.bl (decide (j < i))) S
def bGe : P2 := onI fun i j S Q => Q (.bl (decide (j ≤ i))) S
section
variable {X : Cx}
theorem o_le : O2 X (compareOp .LtE) bLe := (o_I0 op_le fun _ _ _ _ _ => .bl _).imp onI_pI0
theorem o_gt : O2 X (compareOp .Gt) bGt := (o_I0 op_gt fun _ _ _ _ _ => .bl _).imp onI_pI0
theorem o_ge : O2 X (compareOp .GtE) bGe := (o_I0 op_ge fun _ _ _ _ _ => .bl _).imp onI_pI0
end

/-! ### is -/
/-! ### in, over flat things -/
def flatP : PV → Bool
  | .non => true
  | .bl _ => true
  | .int _ => true
  | .str _ => true
  | _ => false
def eqP : PV → PV → Bool
  | .non, .non => true
  | .bl a, .bl b => a == b
  | .bl a, .int b => (if a then 1 else 0) == b
  | .int a, .bl b => a == (if b then 1 else 0)
  | .int a, .int b => a == b
  | .str a, .str b => a == b
  | _, _ => false
def inP (x : PV) (xs : List PV) : Bool := xs.any fun y => eqP y x
/-- the items of a tuple, or of a list of the store -/
def Sq (S : Sto) : PV → List PV → Prop
  | .tup ys, xs => ys = xs
  | .ref n, xs => SL S n xs
  | .kls ys, xs => ys = xs
  | _, _ => False
section
variable {K : PySem.W.Frag} {ι : List Addr} {H : Hp} {S : Sto}
theorem RV.flat {p : PV} {v : V} (r : RV K ι H p v) (h : flatP p = true) : flatV v = true := by
  cases r <;> first | rfl | exact absurd h Bool.false_ne_true
theorem RVs.flat : ∀ {ps : List PV} {vs : List V}, RVs K ι H ps vs → ps.all flatP = true → vs.all flatV = true
  | _, _, .nil, _ => rfl
  | _, _, .cons r t, h => by
    rw [List.all_cons, Bool.and_eq_true] at h ⊢
    exact ⟨r.flat h.1, RVs.flat t h.2⟩
theorem RV.eqP {p q : PV} {v w : V} (r : RV K ι H p v) (t : RV K ι H q w) (hp : flatP p = true) (hq : flatP q = true) : eqV v w = M.eqP p q := by
  cases r <;> cases t <;> first | rfl | exact absurd hp Bool.false_ne_true | exact absurd hq Bool.false_ne_true
theorem RVs.inP {q : PV} {w : V} (t : RV K ι H q w) (hq : flatP q = true) : ∀ {ps : List PV} {vs : List V}, RVs K ι H ps vs → ps.all flatP = true → inV w vs = M.inP q ps
  | _, _, .nil, _ => rfl
  | _, _, .cons r rs, h => by
    rw [List.all_cons, Bool.and_eq_true] at h
    show (eqV _ w || inV w _) = (M.eqP _ q || M.inP q _)
    rw [r.eqP t h.1 hq, RVs.inP t hq rs h.2]
theorem RS.sqP (s : RS K ι H S) {p : PV} {v : V} {xs : List PV} (r : RV K ι H p v) (h : Sq S p xs) : ∃ a vs, v = .ref a ∧ (SqL K H a vs ∨ TupP K H a vs) ∧ RVs K ι H xs vs := by
  cases r with
  | tup ha ra =>
    have e : _ = xs := h
    subst e
    exact ⟨_, _, rfl, .inr ha, ra⟩
  | ref ha =>
    obtain ⟨vs, h1, h2⟩ := s.sl ha h
    exact ⟨_, vs, rfl, .inl h1, h2⟩
  | kls ha ra =>
    have e : _ = xs := h
    subst e
    exact ⟨_, _, rfl, .inl ha.sq, ra⟩
  | _ => exact h.elim
theorem RS.sq (s : RS K ι H S) {p : PV} {v : V} {xs : List PV} (r : RV K ι H p v) (h : Sq S p xs) : ∃ a vs, v = .ref a ∧ (SqL K H a vs ∨ SqT K H a vs) ∧ RVs K ι H xs vs := let ⟨a, vs, e, h1, h2⟩ := s.sqP r h; ⟨a, vs, e, h1.imp id (·.sq), h2⟩
end
def bIn (neg : Bool) : P2 := fun x y S Q => ∃ ys, Sq S y ys ∧ flatP x = true ∧ ys.all flatP = true ∧ Q (.bl (if neg then !inP x ys else inP x ys)) S
theorem Kp_in {K : PySem.W.Frag} (neg : Bool) : Kp2 K (bIn neg) (rIn K neg) := fun ι H S x y v w Qp Q s rx ry ⟨ys, hy, fx, fy, q⟩ k => by
  obtain ⟨a, vs, rfl, hs, rs⟩ := s.sq ry hy
  refine ⟨a, vs, rfl, hs, rx.flat fx, rs.flat fy, ?_⟩
  rw [rs.inP rx fx fy]
  exact k ι H S _ _ .refl s (.bl _) q
theorem o_in {X : Cx} : O2 X (compareOp .In) (bIn false) := ⟨_, op_in_seq, Kp_in false⟩
theorem o_notin {X : Cx} : O2 X (compareOp .NotIn) (bIn true) := ⟨_, op_notIn_seq, Kp_in true⟩

/-! ### one-place operations -/
section
variable {X : Cx} {a : Expr} {fa : WE} {pos : Pos}
def bNeg : PV → Sto → Post → Prop
  | .int i, S, Q => Q (.int (-i)) S
  | _, _, _ => False
theorem j_neg (ha : JE X a fa) : JE X (.UnaryOp .USub a pos) (wUn bNeg fa) := ⟨pe_imp (pe_un un_neg ha.pe) (tUn_of fun ι H S x v Qp Q s rx h k => by
  cases rx <;> first | exact h.elim | exact ⟨_, rfl, k ι H S _ _ .refl s (.int _) h⟩)⟩
end

/-! ### truth -/
def Tru (S : Sto) : PV → Bool → Prop
  | .non, k => k = false
  | .bl b, k => k = b
  | .int i, k => k = (i != 0)
  | .str y, k => y.length ≤ sizeLine ∧ k = ((y.length : Int) != 0)
  | .tup xs, k => k = !xs.isEmpty
  | .ref n, k => (∃ xs, SL S n xs ∧ k = !xs.isEmpty) ∨ ∃ kvs, S[n]? = some (.dct kvs) ∧ k = !kvs.isEmpty
  | _, _ => False
def wTru (f : WE) : WT := fun fr S Q => f fr S fun x S1 => ∃ k, Tru S1 x k ∧ Q k S1
theorem RVs.isEmpty {K : PySem.W.Frag} {ι : List Addr} {H : Hp} {ps : List PV} {vs : List V} (r : RVs K ι H ps vs) : vs.isEmpty = ps.isEmpty := by cases r <;> rfl
theorem RKs.isEmpty {κ : Type} {K : PySem.W.Frag} {ι : List Addr} {H : Hp} {ps : List (κ × PV)} {vs : List (κ × V)} (r : RKs K ι H ps vs) : vs.isEmpty = ps.isEmpty := by cases r <;> rfl
theorem tru_of {K : PySem.W.Frag} {ι : List Addr} {H : Hp} {S : Sto} {p : PV} {v : V} {k : Bool} (s : RS K ι H S) (r : RV K ι H p v) (h : Tru S p k) : TruV K v H k := by
  cases r with
  | tup ha ra => exact .inr (.inl ⟨_, ha.sq, by rw [ra.isEmpty]; exact h⟩)
  | ref ha =>
    rcases h with ⟨xs, hx, e⟩ | ⟨kvs, hx, e⟩
    · obtain ⟨vs, h1, h2⟩ := s.sl ha hx
      exact .inl ⟨vs, h1, by rw [h2.isEmpty]; exact e⟩
    · obtain ⟨ws, h1, h2⟩ := s.there hx ha
      exact .inr (.inr ⟨ws, h1, by rw [h2.isEmpty]; exact e⟩)
  | adr a => exact h.elim
  | kls ha ra => exact h.elim
  | ty n => exact h.elim
  | _ => exact h
section
variable {X : Cx} {a b c : Expr} {rest : List Expr} {fa fb fc : WE} {ga gb gc : WT} {pos : Pos}
theorem jt_tru (ha : JE X a fa) (he : ∀ whole, isTrue a X.env whole = (do let v ← whole; standAt a.pos; holding [v] (truthy v)) := by intro _; rfl) : JT X a (wTru fa) := ⟨pt_imp (pt_truth ha.pe he) fun σ H Q ⟨ι, fr, S, Qp, hF, hS, hf, k⟩ =>
  ⟨ι, fr, S, _, hF, hS, hf, fun ι1 H1 S1 x v f1 s1 r1 ⟨b, e, g⟩ => ⟨b, tru_of s1 r1 e, k ι1 H1 S1 b f1 s1 g⟩⟩⟩
def wNotT (g : WT) : WT := fun fr S Q => g fr S fun b S1 => Q (!b) S1
theorem jt_not (ha : JT X a ga) : JT X (.UnaryOp .Not a pos) (wNotT ga) := ⟨pt_imp (pt_not ha.pt) fun σ H Q ⟨ι, fr, S, Qp, hF, hS, hf, k⟩ =>
  ⟨ι, fr, S, _, hF, hS, hf, fun ι1 H1 S1 b f1 s1 g => k ι1 H1 S1 (!b) f1 s1 g⟩⟩
def wAndT (g h : WT) : WT := fun fr S Q => g fr S fun b S1 => if b = true then h fr S1 Q else Q false S1
def wOrT (g h : WT) : WT := fun fr S Q => g fr S fun b S1 => if b = true then Q true S1 else h fr S1 Q
theorem jw_and1 (ha : JT X a ga) : JW X (.BoolOp .And [a] pos) ga := ⟨pw_and1 ha.pt⟩
theorem jw_or1 (ha : JT X a ga) : JW X (.BoolOp .Or [a] pos) ga := ⟨pw_or1 ha.pt⟩
theorem jw_and (ha : JT X a ga) (hb : JW X (.BoolOp .And (b :: rest) pos) gb) : JW X (.BoolOp .And (a :: b :: rest) pos) (wAndT ga gb) := ⟨pw_imp (pw_and ha.pt hb.pw) fun σ H Q ⟨ι, fr, S, Qp, hF, hS, hf, k⟩ =>
  ⟨ι, fr, S, _, hF, hS, hf, fun ι1 H1 S1 b f1 s1 g => by
    cases b with
    | true => exact iteT ⟨ι1, fr, S1, Qp, hF.fut f1, s1, by simpa using g, fun ι' H' S' b' f2 s2 q => k ι' H' S' b' (f1.trans f2) s2 q⟩
    | false => exact iteF (k ι1 H1 S1 false f1 s1 (by simpa using g))⟩⟩
theorem jw_or (ha : JT X a ga) (hb : JW X (.BoolOp .Or (b :: rest) pos) gb) : JW X (.BoolOp .Or (a :: b :: rest) pos) (wOrT ga gb) := ⟨pw_imp (pw_or ha.pt hb.pw) fun σ H Q ⟨ι, fr, S, Qp, hF, hS, hf, k⟩ =>
  ⟨ι, fr, S, _, hF, hS, hf, fun ι1 H1 S1 b f1 s1 g => by
    cases b with
    | false => exact iteF ⟨ι1, fr, S1, Qp, hF.fut f1, s1, by simpa using g, fun ι' H' S' b' f2 s2 q => k ι' H' S' b' (f1.trans f2) s2 q⟩
    | true => exact iteT (k ι1 H1 S1 true f1 s1 (by simpa using g))⟩⟩
/-- as values: all but the last True or False -/
def wAndV (f g : WE) : WE := fun fr S Q => f fr S fun x S1 => ∃ c, x = .bl c ∧ if c = true then g fr S1 Q else Q (.bl false) S1
def wNotV (f : WE) : WE := fun fr S Q => f fr S fun x S1 => ∃ c, x = .bl c ∧ Q (.bl (!c)) S1
theorem j_one {op} (ha : JE X a fa) : JE X (.BoolOp op [a] pos) fa := ⟨pe_one ha.pe⟩
theorem j_and (ha : JE X a fa) (hb : JE X (.BoolOp .And (b :: rest) pos) fb) : JE X (.BoolOp .And (a :: b :: rest) pos) (wAndV fa fb) := ⟨pe_imp (pe_and ha.pe hb.pe) fun σ H Q ⟨ι, fr, S, Qp, hF, hS, hf, k⟩ =>
  ⟨ι, fr, S, _, hF, hS, hf, fun ι1 H1 S1 x v f1 s1 r1 ⟨c, e, g⟩ => by
    subst e
    cases r1
    refine ⟨c, rfl, ?_⟩
    cases c with
    | true => exact iteT ⟨ι1, fr, S1, Qp, hF.fut f1, s1, by simpa using g, fun ι' H' S' p v f2 s2 r q => k ι' H' S' p v (f1.trans f2) s2 r q⟩
    | false => exact iteF (k ι1 H1 S1 _ _ f1 s1 (.bl false) (by simpa using g))⟩⟩
theorem j_not (ha : JE X a fa) : JE X (.UnaryOp .Not a pos) (wNotV fa) := ⟨pe_imp (pe_not ha.pe) fun σ H Q ⟨ι, fr, S, Qp, hF, hS, hf, k⟩ =>
  ⟨ι, fr, S, _, hF, hS, hf, fun ι1 H1 S1 x v f1 s1 r1 ⟨c, e, g⟩ => by
    subst e
    cases r1
    exact ⟨c, rfl, k ι1 H1 S1 _ _ f1 s1 (.bl _) g⟩⟩⟩
def wIf (g : WT) (f h : WE) : WE := fun fr S Q => g fr S fun b S1 => if b = true then f fr S1 Q else h fr S1 Q
theorem j_if (hc : JT X c gc) (ha : JE X a fa) (hb : JE X b fb) : JE X (.IfExp c a b pos) (wIf gc fa fb) := ⟨pe_imp (pe_ifExp hc.pt ha.pe hb.pe) fun σ H Q ⟨ι, fr, S, Qp, hF, hS, hf, k⟩ =>
  ⟨ι, fr, S, _, hF, hS, hf, fun ι1 H1 S1 b f1 s1 g => by
    cases b with
    | true => exact iteT ⟨ι1, fr, S1, Qp, hF.fut f1, s1, by simpa using g, fun ι' H' S' p v f2 s2 r q => k ι' H' S' p v (f1.trans f2) s2 r q⟩
    | false => exact iteF ⟨ι1, fr, S1, Qp, hF.fut f1, s1, by simpa using g, fun ι' H' S' p v f2 s2 r q => k ι' H' S' p v (f1.trans f2) s2 r q⟩⟩⟩
/-- a < b < c -/
def wChain (r r' : P2) (f g h : WE) : WE := fun fr S Q => f fr S fun x S1 => g fr S1 fun y S2 => r x y S2 fun z S3 => ∃ k, z = .bl k ∧ if k = true then h fr S3 fun w S4 => r' y w S4 Q else Q (.bl false) S3
theorem tChain_of {K : PySem.W.Frag} {r r' : P2} {q q' : R2} (h : Kp2 K r q) (h' : Kp2 K r' q') : ∀ σ H Q, tE K (wChain r r' fa fb fc) σ H Q → tChain q q' (tE K fa) (tE K fb) (tE K fc) σ H Q :=
  fun σ H Q ⟨ι, fr, S, Qp, hF, hS, hf, k⟩ => ⟨ι, fr, S, _, hF, hS, hf, fun ι1 H1 S1 x v f1 s1 r1 g => ⟨ι1, fr, S1, _, hF.fut f1, s1, g, fun ι2 H2 S2 y w f2 s2 r2 g2 =>
    h ι2 H2 S2 x y v w _ _ s2 (r1.fut f2) r2 g2 fun ι3 H3 S3 z u f3 s3 r3 ⟨c, e, g3⟩ => by
      subst e
      cases r3
      refine ⟨c, rfl, ?_⟩
      have f13 : Fut K ι H ι3 H3 := (f1.trans f2).trans f3
      cases c with
      | false => exact iteF (k ι3 H3 S3 _ _ f13 s3 (.bl false) (by simpa using g3))
      | true =>
        refine iteT ⟨ι3, fr, S3, _, hF.fut f13, s3, (by simpa using g3), fun ι4 H4 S4 w4 v4 f4 s4 r4 g4 => ?_⟩
        exact h' ι4 H4 S4 y w4 w v4 Qp Q s4 (r2.fut (f3.trans f4)) r4 g4 fun ι' H' S' p u f5 => k ι' H' S' p u ((f13.trans f4).trans f5)⟩⟩
theorem j_chain {op op' : CmpOp} {r r' : P2} (ho : O2 X (compareOp op) r) (ho' : O2 X (compareOp op') r') (ha : JE X a fa) (hb : JE X b fb) (hc : JE X c fc)
    (hm : lastMarks [op, op'] [b, c] = false := by with_unfolding_all rfl) : JE X (.Compare a [op, op'] [b, c] pos) (wChain r r' fa fb fc) := by
  obtain ⟨q, h1, h2⟩ := ho.ex
  obtain ⟨q', h1', h2'⟩ := ho'.ex
  exact ⟨pe_imp (pe_chain h1 h1' ha.pe hb.pe hc.pe hm) (tChain_of h2 h2')⟩
end
end M

namespace M
open PySem PySem.Spec PyProof.Rows L2
/-- T1 tracks the tables that T0 tracks, and holds what T0 holds since its entry -/
class On (T1 T0 : Tabs) : Prop where
  t : T1.T = T0.T
  s : ∀ {K : PySem.W.Frag} {ι : List Addr} {H : Hp}, T1.since K ι H → T0.since K ι H
instance On.refl {T : Tabs} : On T T := ⟨rfl, fun h => h⟩
theorem On.trans {T2 T1 T0 : Tabs} (a : On T2 T1) (b : On T1 T0) : On T2 T0 := ⟨a.t.trans b.t, fun h => b.s (a.s h)⟩
section
variable {T0 T1 : Tabs} {K : PySem.W.Frag} {ι ι' : List Addr} {H H' : Hp} {S S' : Sto}
theorem RS.down (o : On T1 T0) (r : @RS T1 K ι H S) : @RS T0 K ι H S := @RS.mk T0 K ι H S r.len r.nd r.obj (fun P h => r.tab P (by rw [o.t]; exact h)) (o.s r.si)
theorem RS.up (o : On T1 T0) (r1 : @RS T1 K ι H S) (f : Fut K ι H ι' H') (r : @RS T0 K ι' H' S') : @RS T1 K ι' H' S' := @RS.mk T1 K ι' H' S' (@RS.len T0 _ _ _ _ r) (@RS.nd T0 _ _ _ _ r) (@RS.obj T0 _ _ _ _ r) (fun P h => @RS.tab T0 _ _ _ _ r P (by rw [← o.t]; exact h)) (T1.mono (@RS.si T1 _ _ _ _ r1) f)
end
variable {T0 : Tabs} [T1 : Tabs]

/-! ### argument lists, displays -/
def wNil : WA := fun _ S Q => Q [] S
def wCons (f : WE) (g : WA) : WA := fun fr S Q => f fr S fun x S1 => g fr S1 fun xs S2 => Q (x :: xs) S2
def wTup (g : WA) : WE := fun fr S Q => g fr S fun xs S1 => xs.length ≤ sizeLine ∧ Q (.tup xs) S1
def wLst (g : WA) : WE := fun fr S Q => g fr S fun xs S1 => xs.length ≤ sizeLine ∧ Q (.ref S1.length) (S1 ++ [.lst xs])
section
variable {X : Cx} {e : Expr} {es : List Expr} {fe : WE} {g : WA} {pos : Pos}
theorem ja_nil : JA X [] wNil := ⟨pa_imp pa_nil fun σ H Q ⟨ι, fr, S, Qp, hF, hS, hf, k⟩ => k ι H S [] [] .refl hS .nil hf⟩
theorem ja_cons (he : JE X e fe) (hr : JA X es g) (hs : starEach (e :: es) X.env = (false, eval e X.env) :: starEach es X.env := by rfl) : JA X (e :: es) (wCons fe g) :=
  ⟨pa_imp (pa_cons he.pe hr.pa hs) fun σ H Q ⟨ι, fr, S, Qp, hF, hS, hf, k⟩ => ⟨ι, fr, S, _, hF, hS, hf, fun ι1 H1 S1 x v f1 s1 r1 q1 => ⟨ι1, fr, S1, _, hF.fut f1, s1, q1, fun ι2 H2 S2 xs vs f2 s2 r2 q2 =>
    k ι2 H2 S2 (x :: xs) (v :: vs) (f1.trans f2) s2 (.cons (r1.fut f2) r2) q2⟩⟩⟩
theorem j_tup {x1} (h : JA X es g) : JE X (.Tuple es x1 pos) (wTup g) := ⟨pe_imp (pe_tup h.pa) fun σ H Q ⟨ι, fr, S, Qp, hF, hS, hf, k⟩ => ⟨ι, fr, S, _, hF, hS, hf, fun ι1 H1 S1 xs vs f1 s1 r1 q1 =>
  ⟨by rw [← r1.length]; exact q1.1, new_tup s1 r1 (fun ι' H' S' p v f2 => k ι' H' S' p v (f1.trans f2)) q1.2⟩⟩⟩
theorem j_lst (h : JA X es g) : JE X (.List es pos) (wLst g) := ⟨pe_imp (pe_lst h.pa) fun σ H Q ⟨ι, fr, S, Qp, hF, hS, hf, k⟩ => ⟨ι, fr, S, _, hF, hS, hf, fun ι1 H1 S1 xs vs f1 s1 r1 q1 =>
  ⟨by rw [← r1.length]; exact q1.1, new_list s1 r1 (fun ι' H' S' p v f2 => k ι' H' S' p v (f1.trans f2)) q1.2⟩⟩⟩
end

/-! ### what a def promises, plainly -/
abbrev PSp := List PV → Sto → Post → Prop
def liftSp (K : PySem.W.Frag) (sp : PSp) : Sp := fun vs H Q _ => ∃ (ι : List Addr) (S : Sto) (ps : List PV) (Qp : Post), RS K ι H S ∧ RVs K ι H ps vs ∧ sp ps S Qp ∧
  ∀ (ι' : List Addr) (H' : Hp) (S' : Sto) (p : PV) (v : V), Fut K ι H ι' H' → RS K ι' H' S' → RV K ι' H' p v → Qp p S' → Q v H'
/-- the name x is a def that keeps sp; k: how deep it may go -/
structure Fn (P : Program) (w : World) (K : PySem.W.Frag) (mg : Str → Option Value) (base : Heap) (k : Nat) (x : Str) (sp : PSp) : Prop where
  ex : ∃ (f : Addr) (fd : FuncData) (ps : List Str), FnOk P w K mg base CX0 k f fd ps (liftSp K sp) ∧ mg x = some (.ref f) ∧ PySem.W.keepIn K (.ref f) = true ∧ Binds K fd ps []
def wCall (sp : PSp) (g : WA) : WE := fun fr S Q => g fr S fun vs S1 => sp vs S1 Q
theorem tCall_of {K : PySem.W.Frag} {sp : PSp} {g : WA} {E : XK} (o : On T1 T0) : ∀ σ H Q, @tE T1 K (wCall sp g) σ H Q → tCall (@liftSp T0 K sp) [] E (@tA T1 K g) σ H Q := fun σ H Q ⟨ι, fr, S, Qp, hF, hS, hf, k⟩ =>
  ⟨ι, fr, S, _, hF, hS, hf, fun ι1 H1 S1 xs vs f1 s1 r1 q1 => ⟨ι1, S1, xs, Qp, s1.down o, by rw [List.append_nil]; exact r1, q1, fun ι' H' S' p v f2 s2 => k ι' H' S' p v (f1.trans f2) (RS.up o s1 f2 s2)⟩⟩
section
variable {X : Cx} {x : Str} {p pos : Pos} {e : Expr} {es : List Expr} {g : WA} {sp : PSp} {k : Nat}
theorem j_call [o : On T1 T0] (F : @Fn T0 X.prog X.w X.K X.mg X.base k x sp) (hr : Room k X.A) (ha : @JA T1 X (e :: es) g) (hg : Gl X x := by rfl)
    (hdb : (x == ("__debug__" : Str)) = false := by decide) (he : starEach (e :: es) X.env = (false, eval e X.env) :: starEach es X.env := by rfl) (hpl : (backTo pos (starEach es X.env)).any (·.1) = false := by rfl) :
    @JE T1 X (.Call (.Name x p) (e :: es) [] pos) (wCall sp g) := by
  obtain ⟨f, fd, ps, h1, h2, h3, h4⟩ := @Fn.ex T0 _ _ _ _ _ _ _ _ F
  exact ⟨pe_imp (pe_call h1 hr hg h2 h3 h4 .nil pass0 ha.pa hdb he hpl) (tCall_of o)⟩
end

/-! ### built-in functions -/
def KpN (K : PySem.W.Frag) (r : PSp) (q : List V → Hp → VK → Prop) : Prop := ∀ (ι : List Addr) (H : Hp) (S : Sto) (xs : List PV) (vs : List V) (Qp : Post) (Q : VK), RS K ι H S → RVs K ι H xs vs → r xs S Qp →
  (∀ ι' H' S' p v, Fut K ι H ι' H' → RS K ι' H' S' → RV K ι' H' p v → Qp p S' → Q v H') → q vs H Q
/-- a built-in that is called by values -/
structure CR1 (X : Cx) (f : Value) (r : PSp) : Prop where
  ex : ∃ q, CallR X f q ∧ KpN X.K r q
theorem tCB_of {K : PySem.W.Frag} {r : PSp} {q : List V → Hp → VK → Prop} {g : WA} (h : KpN K r q) : ∀ σ H Q, tE K (wCall r g) σ H Q → tCB q (tA K g) σ H Q := fun σ H Q ⟨ι, fr, S, Qp, hF, hS, hf, k⟩ =>
  ⟨ι, fr, S, _, hF, hS, hf, fun ι1 H1 S1 xs vs f1 s1 r1 q1 => h ι1 H1 S1 xs vs Qp Q s1 r1 q1 fun ι' H' S' p v f2 => k ι' H' S' p v (f1.trans f2)⟩
theorem CallR.or {X : Cx} {f : Value} {r q : List V → Hp → VK → Prop} (h1 : CallR X f r) (h2 : CallR X f q) : CallR X f (fun xs H Q => r xs H Q ∨ q xs H Q) := fun pins s σ H xs us Q I rx h => by
  rcases h with h | h
  · exact h1 pins s σ H xs us Q I rx h
  · exact h2 pins s σ H xs us Q I rx h
theorem CR1.or {X : Cx} {f : Value} {r r' : PSp} (h1 : CR1 X f r) (h2 : CR1 X f r') : CR1 X f (fun xs S Q => r xs S Q ∨ r' xs S Q) := by
  obtain ⟨q, a, b⟩ := h1.ex
  obtain ⟨q', a', b'⟩ := h2.ex
  exact ⟨_, CallR.or a a', fun ι H S xs vs Qp Q s rx h k => by
    rcases h with h | h
    · exact .inl (b ι H S xs vs Qp Q s rx h k)
    · exact .inr (b' ι H S xs vs Qp Q s rx h k)⟩
theorem CR1.imp {X : Cx} {f : Value} {r r' : PSp} (h : CR1 X f r) (i : ∀ xs S Q, r' xs S Q → r xs S Q) : CR1 X f r' := by
  obtain ⟨q, a, b⟩ := h.ex
  exact ⟨q, a, fun ι H S xs vs Qp Q s rx z k => b ι H S xs vs Qp Q s rx (i _ _ _ z) k⟩
section
variable {X : Cx} {x : Str} {p pos : Pos} {e : Expr} {es : List Expr} {g : WA} {r : PSp} {id T : String}
theorem j_blt (hc : CR1 X (.builtin id) r) (hm : X.mg x = none) (hv : bootBuiltins x = some (.builtin id)) (ha : JA X (e :: es) g) (hg : Gl X x := by rfl) (hn : x ≠ "__name__" := by decide) (hdb : (x == ("__debug__" : Str)) = false := by decide)
    (he : starEach (e :: es) X.env = (false, eval e X.env) :: starEach es X.env := by rfl) (hpl : (backTo pos (starEach es X.env)).any (·.1) = false := by rfl) : JE X (.Call (.Name x p) (e :: es) [] pos) (wCall r g) := by
  obtain ⟨q, h1, h2⟩ := hc.ex
  exact ⟨pe_imp (pe_callB h1 hg hm hv ha.pa hn hdb he hpl) (tCB_of h2)⟩
theorem j_bty (hc : CR1 X (.type T) r) (hm : X.mg x = none) (hv : bootBuiltins x = some (.type T)) (ha : JA X (e :: es) g) (hg : Gl X x := by rfl) (hn : x ≠ "__name__" := by decide) (hdb : (x == ("__debug__" : Str)) = false := by decide)
    (he : starEach (e :: es) X.env = (false, eval e X.env) :: starEach es X.env := by rfl) (hpl : (backTo pos (starEach es X.env)).any (·.1) = false := by rfl) : JE X (.Call (.Name x p) (e :: es) [] pos) (wCall r g) := by
  obtain ⟨q, h1, h2⟩ := hc.ex
  exact ⟨pe_imp (pe_callTy h1 hg hm hv ha.pa hn hdb he hpl) (tCB_of h2)⟩
end

/-- len -/
def pLen : PSp
  | [.str z], S, Q => z.length ≤ sizeLine ∧ Q (.int z.length) S
  | [.tup xs], S, Q => Q (.int xs.length) S
  | [.ref n], S, Q => (∃ xs, SL S n xs ∧ Q (.int xs.length) S) ∨ ∃ kvs, S[n]? = some (.dct kvs) ∧ Q (.int kvs.length) S
  | _, _, _ => False
theorem RVs.one {K : PySem.W.Frag} {ι : List Addr} {H : Hp} {p : PV} {vs : List V} (r : RVs K ι H [p] vs) : ∃ v, vs = [v] ∧ RV K ι H p v := by
  cases r with
  | cons r t => cases t; exact ⟨_, rfl, r⟩
theorem RVs.two {K : PySem.W.Frag} {ι : List Addr} {H : Hp} {p q : PV} {vs : List V} (r : RVs K ι H [p, q] vs) : ∃ v w, vs = [v, w] ∧ RV K ι H p v ∧ RV K ι H q w := by
  cases r with
  | cons r t =>
    obtain ⟨w, rfl, r'⟩ := t.one
    exact ⟨_, _, rfl, r, r'⟩
theorem RKs.length {κ : Type} {K : PySem.W.Frag} {ι : List Addr} {H : Hp} : ∀ {ps : List (κ × PV)} {vs : List (κ × V)}, RKs K ι H ps vs → ps.length = vs.length
  | _, _, .nil => rfl
  | _, _, .cons _ t => by rw [List.length_cons, List.length_cons, RKs.length t]
theorem b_len {X : Cx} : CR1 X (.builtin "len") pLen := ⟨_, CallR.or call_len_str (CallR.or call_len_seq call_lenD), fun ι H S xs vs Qp Q s rx h k => by
  match xs, rx, h with
  | [.str z], rx, h =>
    obtain ⟨v, rfl, r⟩ := rx.one
    cases r
    exact .inl ⟨z, rfl, h.1, k ι H S _ _ .refl s (.int _) h.2⟩
  | [.tup zs], rx, h =>
    obtain ⟨v, rfl, r⟩ := rx.one
    cases r with
    | tup ha ra =>
      refine .inr (.inl ⟨_, _, rfl, .inr ha.sq, ?_⟩)
      rw [← ra.length]
      exact k ι H S _ _ .refl s (.int _) h
  | [.ref n], rx, h =>
    obtain ⟨v, rfl, r⟩ := rx.one
    cases r with
    | ref ha =>
      rcases h with ⟨zs, hz, q⟩ | ⟨kvs, hz, q⟩
      · obtain ⟨ws, h1, h2⟩ := s.sl ha hz
        refine .inr (.inl ⟨_, _, rfl, .inl h1, ?_⟩)
        rw [← h2.length]
        exact k ι H S _ _ .refl s (.int _) q
      · obtain ⟨ws, h1, h2⟩ := s.there hz ha
        refine .inr (.inr ⟨_, _, rfl, h1, ?_⟩)
        rw [← h2.length]
        exact k ι H S _ _ .refl s (.int _) q⟩
/-- list(s), tuple(s) -/
def pList : PSp
  | [p], S, Q => ∃ xs, Sq S p xs ∧ Q (.ref S.length) (S ++ [.lst xs])
  | _, _, _ => False
def pTuple : PSp
  | [p], S, Q => ∃ xs, Sq S p xs ∧ Q (.tup xs) S
  | _, _, _ => False
theorem b_list {X : Cx} : CR1 X (.type "list") pList := ⟨_, call_list_of, fun ι H S xs vs Qp Q s rx h k => by
  match xs, rx, h with
  | [p], rx, ⟨ys, hy, q⟩ =>
    obtain ⟨v, rfl, r⟩ := rx.one
    obtain ⟨a, ws, rfl, h1, h2⟩ := s.sq r hy
    exact ⟨a, ws, rfl, h1, new_list s h2 k q⟩⟩
theorem b_tuple {X : Cx} : CR1 X (.type "tuple") pTuple := ⟨_, call_tuple_of, fun ι H S xs vs Qp Q s rx h k => by
  match xs, rx, h with
  | [p], rx, ⟨ys, hy, q⟩ =>
    obtain ⟨v, rfl, r⟩ := rx.one
    obtain ⟨a, ws, rfl, h1, h2⟩ := s.sqP r hy
    rcases h1 with h1 | h1
    · exact ⟨a, ws, rfl, .inl ⟨h1, new_tup s h2 k q⟩⟩
    · exact ⟨a, ws, rfl, .inr ⟨h1.sq, k ι H S (.tup ys) _ .refl s (.tup h1 h2) q⟩⟩⟩

/-- repr -/
def pRepr : PSp
  | [p], S, Q => ∃ d, PDt S p d ∧ d.showable = true ∧ d.depth ≤ 50 ∧ d.shown.length ≤ sizeLine ∧ Q (.str d.shown) S
  | _, _, _ => False

/-- isinstance -/
inductive Kind | none | bool | int | str | tuple | list | dict
  deriving DecidableEq
def kindP (S : Sto) : PV → Kind → Prop
  | .non, k => k = .none
  | .bl _, k => k = .bool
  | .int _, k => k = .int
  | .str _, k => k = .str
  | .tup _, k => k = .tuple
  | .ref n, k => (k = .list ∧ ∃ xs, SL S n xs) ∨ (k = .dict ∧ ∃ kvs, S[n]? = some (.dct kvs))
  | _, _ => False
def isA : Kind → String → Option Bool
  | .none, "int" => some false | .none, "bool" => some false | .none, "str" => some false | .none, "tuple" => some false | .none, "list" => some false
  | .bool, "int" => some true | .bool, "bool" => some true | .bool, "str" => some false | .bool, "tuple" => some false | .bool, "list" => some false
  | .int, "int" => some true | .int, "bool" => some false | .int, "str" => some false | .int, "tuple" => some false | .int, "list" => some false
  | .str, "int" => some false | .str, "bool" => some false | .str, "str" => some true | .str, "tuple" => some false | .str, "list" => some false
  | .tuple, "int" => some false | .tuple, "bool" => some false | .tuple, "str" => some false | .tuple, "tuple" => some true | .tuple, "list" => some false
  | .list, "int" => some false | .list, "bool" => some false | .list, "str" => some false | .list, "tuple" => some false | .list, "list" => some true
  | _, _ => Option.none
def pIsi : PSp
  | [p, .ty T], S, Q => ∃ k b, kindP S p k ∧ isA k T = some b ∧ Q (.bl b) S
  | _, _, _ => False
def kindV (K : PySem.W.Frag) (H : Hp) : V → Kind → Prop
  | .non, k => k = .none
  | .bl _, k => k = .bool
  | .int _, k => k = .int
  | .str _, k => k = .str
  | .ref a, k => (k = .tuple ∧ ∃ xs, SqT K H a xs) ∨ (k = .list ∧ ∃ xs, SqL K H a xs)
  | _, _ => False
def rIsi (K : PySem.W.Frag) : List V → Hp → VK → Prop := fun vs H Q => ∃ v T k b, vs = [v, .ty T] ∧ kindV K H v k ∧ isA k T = some b ∧ Q (.bl b) H
theorem isA_T {k : Kind} {T : String} {b : Bool} (h : isA k T = some b) : T = "int" ∨ T = "bool" ∨ T = "str" ∨ T = "tuple" ∨ T = "list" := by
  unfold isA at h
  split at h <;> simp_all
theorem call_isi {X : Cx} : CallR X (.builtin "isinstance") (rIsi X.K) := by
  intro pins s σ H xs us Q I r h
  obtain ⟨v, T, k, b, rfl, hk, hb, q⟩ := h
  cases r with
  | @cons _ u _ us r1 r2 =>
    obtain ⟨u2, rfl, r3⟩ := Vals.one r2
    have e2 : u2 = Value.type T := r3
    subst e2
    have done : EP X pins σ Q (.bool b) s := ⟨.bl b, H, I, rfl, q⟩
    have done' : EP X pins σ Q (.bool b) { s with toks := s.toks + 1 } := ⟨.bl b, H, I.tok _, rfl, q⟩
    have hT := isA_T hb
    cases v with
    | non =>
      cases r1
      cases (show k = .none from hk)
      rcases hT with rfl | rfl | rfl | rfl | rfl <;> (cases hb; first | exact IsiPair.NoneType_int done' | exact IsiPair.NoneType_bool done' | exact IsiPair.NoneType_str done' | exact IsiPair.NoneType_tuple done' | exact IsiPair.NoneType_list done')
    | bl c =>
      cases r1
      cases (show k = .bool from hk)
      rcases hT with rfl | rfl | rfl | rfl | rfl <;> (cases hb; first | exact IsiPair.bool_int done | exact IsiPair.bool_bool done | exact IsiPair.bool_str done' | exact IsiPair.bool_tuple done' | exact IsiPair.bool_list done')
    | int c =>
      obtain ⟨t, rfl⟩ := r1
      cases (show k = .int from hk)
      rcases hT with rfl | rfl | rfl | rfl | rfl <;> (cases hb; first | exact IsiPair.int_int done | exact IsiPair.int_bool done' | exact IsiPair.int_str done' | exact IsiPair.int_tuple done' | exact IsiPair.int_list done')
    | str c =>
      obtain ⟨t, rfl⟩ := r1
      cases (show k = .str from hk)
      rcases hT with rfl | rfl | rfl | rfl | rfl <;> (cases hb; first | exact IsiPair.str_int done' | exact IsiPair.str_bool done' | exact IsiPair.str_str done | exact IsiPair.str_tuple done' | exact IsiPair.str_list done')
    | ref a =>
      cases r1
      rcases (show (k = .tuple ∧ ∃ xs, SqT X.K H a xs) ∨ (k = .list ∧ ∃ xs, SqL X.K H a xs) from hk) with ⟨rfl, xs, hx⟩ | ⟨rfl, xs, hx⟩
      · obtain ⟨its, _, ⟨o, ho, hc, _⟩, _⟩ := I.tuple hx
        rcases hT with rfl | rfl | rfl | rfl | rfl <;> (cases hb; first | exact IsiPair.tuple_int ho hc done' | exact IsiPair.tuple_bool ho hc done' | exact IsiPair.tuple_str ho hc done' | exact IsiPair.tuple_tuple ho hc done | exact IsiPair.tuple_list ho hc done')
      · obtain ⟨its, _, ⟨o, n, ho, hc, _⟩, _⟩ := I.list hx
        rcases hT with rfl | rfl | rfl | rfl | rfl <;> (cases hb; first | exact IsiPair.list_int ho hc done' | exact IsiPair.list_bool ho hc done' | exact IsiPair.list_str ho hc done' | exact IsiPair.list_tuple ho hc done' | exact IsiPair.list_list ho hc done)
    | _ => exact (show False from hk).elim
theorem b_isi {X : Cx} : CR1 X (.builtin "isinstance") pIsi := ⟨_, call_isi, fun ι H S xs vs Qp Q s rx h k => by
  match xs, rx, h with
  | [p, .ty T], rx, ⟨kd, b, h1, h2, q⟩ =>
    obtain ⟨v, w, rfl, r1, r2⟩ := rx.two
    cases r2
    refine ⟨v, T, kd, b, rfl, ?_, h2, k ι H S _ _ .refl s (.bl b) q⟩
    cases r1 with
    | tup ha ra => exact .inl ⟨h1, _, ha.sq⟩
    | ref ha =>
      rcases h1 with ⟨e, ys, hy⟩ | ⟨e, kvs, hy⟩
      · obtain ⟨ws, h3, _⟩ := s.sl ha hy
        exact .inr ⟨e, ws, h3⟩
      · subst e
        exact absurd h2 (by unfold isA; simp)
    | adr a => exact h1.elim
    | kls ha ra => exact h1.elim
    | ty n => exact h1.elim
    | _ => exact h1⟩
end M

namespace M
open PySem PySem.Spec PyProof.Rows L2
variable [Tabs]

/-! ### repr -/
mutual
theorem Dp.noDict {K : PySem.W.Frag} {H : Hp} : ∀ {d : PyData} {v : V}, Dp K H v d → d.hasDict = false
  | _, _, .non => by simp only [PyData.hasDict]
  | _, _, .bl _ => by simp only [PyData.hasDict]
  | _, _, .int _ => by simp only [PyData.hasDict]
  | _, _, .str _ => by simp only [PyData.hasDict]
  | _, _, .lst _ h => by simp only [PyData.hasDict]; exact DpAll.noDict h
  | _, _, .tup _ h => by simp only [PyData.hasDict]; exact DpAll.noDict h
theorem DpAll.noDict {K : PySem.W.Frag} {H : Hp} : ∀ {ds : List PyData} {vs : List V}, DpAll K H vs ds → PyData.hasDictAll ds = false
  | _, _, .nil => by simp only [PyData.hasDictAll]
  | _, _, .cons h t => by simp only [PyData.hasDictAll, Dp.noDict h, DpAll.noDict t, Bool.or_self]
end
def rRepr (K : PySem.W.Frag) : List V → Hp → VK → Prop := fun vs H Q => ∃ v d, vs = [v] ∧ Dp K H v d ∧ d.showable = true ∧ d.depth ≤ 50 ∧ d.shown.length ≤ sizeLine ∧ Q (.str d.shown) H
theorem call_reprD {X : Cx} (hg : X.A.guards = some []) (hu : X.A.units + 64 < cLine) : CallR X (.builtin "repr") (rRepr X.K) := by
  intro pins s σ H xs us Q I r h
  obtain ⟨v, d, rfl, hd, h1, h2, h3, q⟩ := h
  obtain ⟨u, rfl, ru⟩ := vals1 r
  have nd := Dp.noDict hd
  have fin : ∀ (h' : Heap) (t : Tok) (tk : Nat), (∀ b o, s.heap.get? b = some o → h'.get? b = some o) → EP X pins σ Q (.str d.shown t) { s with heap := h', toks := tk } := fun h' t tk hk =>
    ⟨.str d.shown, H, I.kept (t' := tk) hk, ⟨t, rfl⟩, q⟩
  have fin0 : EP X pins σ Q (.str d.shown s.toks) { s with toks := s.toks + 1 } := ⟨.str d.shown, H, I.tok _, ⟨_, rfl⟩, q⟩
  cases hd with
  | non => cases ru; exact PySem.P.repr_of_none (by simpa only [PyData.shown] using fin0)
  | bl b => cases ru; exact PySem.P.repr_of_bool (by simpa only [PyData.shown] using fin0)
  | int i =>
    obtain ⟨t, rfl⟩ := ru
    exact PySem.P.repr_of_int (by simpa [PyData.showable] using h1) (by simpa only [PyData.shown] using fin0)
  | str x =>
    obtain ⟨t, rfl⟩ := ru
    exact PySem.P.repr_of_str (by simpa only [PyData.shown] using fin0) (by simpa only [PyData.shown] using h3)
  | lst hs ha =>
    obtain ⟨as, rd⟩ := Dp.reads I _ _ _ (.lst hs ha) ru
    cases ru
    exact repr_of_reads' rd h1 (PyData.noDict_hsm nd) hg (by omega) (fun _ _ e => e) (fun h' t tk hk => fin h' t tk hk) h3
  | tup hs ha =>
    obtain ⟨as, rd⟩ := Dp.reads I _ _ _ (.tup hs ha) ru
    cases ru
    exact repr_of_reads' rd h1 (PyData.noDict_hsm nd) hg (by omega) (fun _ _ e => e) (fun h' t tk hk => fin h' t tk hk) h3
theorem b_repr {X : Cx} (hg : X.A.guards = some []) (hu : X.A.units + 64 < cLine) : CR1 X (.builtin "repr") pRepr := ⟨_, call_reprD hg hu, fun ι H S xs vs Qp Q s rx h k => by
  match xs, rx, h with
  | [p], rx, ⟨d, h1, h2, h3, h4, q⟩ =>
    obtain ⟨v, rfl, r⟩ := rx.one
    exact ⟨v, d, rfl, h1.dp s r, h2, h3, h4, k ι H S _ _ .refl s (.str _) q⟩⟩

/-! ### items -/
theorem RVs.atI {K : PySem.W.Frag} {ι : List Addr} {H : Hp} {ps : List PV} {vs : List V} {i : Int} {p : PV} (r : RVs K ι H ps vs) (h : atI ps i = some p) : ∃ v, L2.atI vs i = some v ∧ RV K ι H p v := by
  unfold L2.atI at h ⊢
  rw [← r.length]
  obtain ⟨j, h1, h2⟩ := Option.bind_eq_some_iff.mp h
  obtain ⟨v, h3, h4⟩ := r.get h2
  exact ⟨v, by rw [h1]; exact h3, h4⟩
def bIdx : P2
  | .tup xs, .int i, S, Q => ∃ p, atI xs i = some p ∧ Q p S
  | .ref n, .int i, S, Q => ∃ xs p, SL S n xs ∧ atI xs i = some p ∧ Q p S
  | .str z, .int i, S, Q => ∃ c, z.length ≤ sizeLine ∧ atI z.cps.toList i = some c ∧ Q (.str ⟨#[c]⟩) S
  | _, _, _, _ => False
section
variable {X : Cx} {a b : Expr} {fa fb : WE} {pos : Pos}
theorem Kp_idx {K : PySem.W.Frag} : Kp2 K bIdx (rIx K) := fun ι H S x y v w Qp Q s rx ry h k => by
  cases x <;> cases y <;> first | exact h.elim | skip
  · cases rx; cases ry
    obtain ⟨c, h1, h2, q⟩ := h
    exact .inr (.inr ⟨_, _, c, rfl, rfl, h1, h2, k ι H S _ _ .refl s (.str _) q⟩)
  · cases ry
    obtain ⟨p, h1, q⟩ := h
    cases rx with
    | tup ha ra =>
      obtain ⟨u, h2, r2⟩ := ra.atI h1
      exact .inr (.inl ⟨_, _, _, u, rfl, rfl, ha.sq, h2, k ι H S _ _ .refl s r2 q⟩)
  · cases ry
    obtain ⟨xs, p, h0, h1, q⟩ := h
    cases rx with
    | ref ha =>
      obtain ⟨vs, h3, r3⟩ := s.sl ha h0
      obtain ⟨u, h2, r2⟩ := r3.atI h1
      exact .inl ⟨_, _, _, u, rfl, rfl, h3, h2, k ι H S _ _ .refl s r2 q⟩
theorem j_idx (ha : JE X a fa) (hb : JE X b fb) (hs : PlainIx b := by exact fun _ _ => rfl) : JE X (.Subscript a b pos) (wOp bIdx fa fb) := ⟨pe_imp (pe_ix ix_seq ha.pe hb.pe hs) (tOp_of Kp_idx)⟩
end

/-! ### slices -/
abbrev WO := Fr → Sto → (Option Int → Sto → Prop) → Prop
def tO (K : PySem.W.Frag) (f : WO) : TO := fun σ H Q => ∃ (ι : List Addr) (fr : Fr) (S : Sto) (Qp : Option Int → Sto → Prop), RF K ι H fr σ ∧ RS K ι H S ∧ f fr S Qp ∧
  ∀ (ι' : List Addr) (H' : Hp) (S' : Sto) (o : Option Int), Fut K ι H ι' H' → RS K ι' H' S' → Qp o S' → Q o H'
structure JO (X : Cx) (e : Option Expr) (f : WO) : Prop where
  po : PO X e (tO X.K f)
theorem po_imp {X : Cx} {e : Option Expr} {t t' : TO} (h : PO X e t) (i : ∀ σ H Q, t' σ H Q → t σ H Q) : PO X e t' := fun pins s σ H Q I q => h pins s σ H Q I (i σ H Q q)
def wNoPart : WO := fun _ S Q => Q none S
def wPart (f : WE) : WO := fun fr S Q => f fr S fun x S1 => ∃ i, x = .int i ∧ Q (some i) S1
section
variable {X : Cx} {e : Expr} {fe : WE} {lo hi : Option Expr} {fl fh : WO} {p2 pos : Pos}
theorem jo_none : JO X none wNoPart := ⟨po_imp po_none fun σ H Q ⟨ι, fr, S, Qp, hF, hS, hf, k⟩ => k ι H S none .refl hS hf⟩
theorem jo_some (he : JE X e fe) : JO X (some e) (wPart fe) := ⟨po_imp (po_some he.pe) fun σ H Q ⟨ι, fr, S, Qp, hF, hS, hf, k⟩ => ⟨ι, fr, S, _, hF, hS, hf, fun ι1 H1 S1 x v f1 s1 r1 ⟨i, ei, q⟩ => by
  subst ei
  cases r1
  exact ⟨i, rfl, k ι1 H1 S1 (some i) f1 s1 q⟩⟩⟩
def cutP (xs : List PV) (lo hi : Option Int) : List PV := (xs.drop (HT.sIx xs.length 0 lo)).take (HT.sIx xs.length xs.length hi - HT.sIx xs.length 0 lo)
theorem RVs.cut {K : PySem.W.Frag} {ι : List Addr} {H : Hp} {ps : List PV} {vs : List V} (r : RVs K ι H ps vs) (lo hi : Option Int) : RVs K ι H (cutP ps lo hi) (cutV vs lo hi) := by
  unfold cutP cutV
  rw [← r.length]
  exact (r.drop _).take _
theorem cutP_whole (xs : List PV) {lo hi : Option Int} (h1 : HT.sIx xs.length 0 lo = 0) (h2 : HT.sIx xs.length xs.length hi = xs.length) : cutP xs lo hi = xs := by
  unfold cutP
  rw [h1, h2, List.drop_zero, Nat.sub_zero, List.take_length]
/-- a whole tuple's slice is the tuple -/
theorem getItem_tuple_whole {prog : Program} {w : World} {A : Around} {E : Value → Shared → Prop} {s : Shared} {t sl : Addr} {items : Array Value} {vl vu : Value} {lo hi : Option Int} {Q : Value → Shared → Prop} (ht : IsTup s.heap t items) (hs : s.heap.IsSliceOf sl vl vu .none) (pl : IsPart vl lo) (pu : IsPart vu hi)
    (hw : HT.sIx items.size 0 lo = 0 ∧ HT.sIx items.size items.size hi = items.size) (h : Q (.ref t) s) : wpAny (model prog w) A (getItem (.ref t) (.ref sl)) Q E s := by
  obtain ⟨os, hos, hcs, hds⟩ := id hs
  have hTs : s.TypeIs (.ref sl) "slice" := ⟨os, hos, hcs⟩
  obtain ⟨ot, hot, hct, nt, hdt⟩ := id ht
  unfold getItem
  try with_reducible refine wpAny_holding ?_
  first | refine wpAny_bind (wpAny_pure ?_) | skip
  refine wpAny_bind (wpAny_sequenceKey ht.typeIs (by decide) ?_)
  refine wpAny_bind (wpAny_callSpecial?_slot (name := Str.ofString "__getitem__") ht.typeIs PyProof.Rows.slot_tuple_getitem
    (wpAny_call_entry PyProof.Rows.slot_tuple_getitem ht.typeIs entry_tuple_getitem ?_ (args_tuple_getitem _ _)))
  show wpAny _ _ (Builtin.Tuple.tupleItemsOf (.ref t) >>= _) _ _ s
  refine wpAny_bind (tupleItemsOf_ ht ?_)
  refine wpAny_bind (wpAny_typeOf hTs ?_)
  rw [if_pos (by decide)]
  refine wpAny_bind (HT.sliceApplied_gen hs pl pu ?_)
  have hno : (((HT.sIx items.size 0 lo : Nat) : Int) == 0 && (1 : Int) == 1 && (HT.sIx items.size items.size hi - HT.sIx items.size 0 lo) == items.size) = true := by
    rw [hw.1, hw.2]
    simp
  show wpAny _ _ (if (((HT.sIx items.size 0 lo : Nat) : Int) == 0 && (1 : Int) == 1 && (HT.sIx items.size items.size hi - HT.sIx items.size 0 lo) == items.size) = true then _ else _) _ _ s
  rw [if_pos hno]
  unfold Builtin.Tuple.tupleIsExact
  refine wpAny_bind (wpAny_bind (wpAny_typeOf ht.typeIs (wpAny_pure ?_)))
  rw [if_pos (by decide)]
  exact wpAny_bind (wpAny_rule (wpAny_pure ⟨_, rfl, wpAny_pure h⟩))
def rSlA (K : PySem.W.Frag) : V → Option Int → Option Int → Hp → VK → Prop := fun x lo hi H Q => ∃ a xs, x = .ref a ∧ SqT K H a xs ∧ HT.sIx xs.length 0 lo = 0 ∧ HT.sIx xs.length xs.length hi = xs.length ∧ Q (.ref a) H
theorem sl_tupW : SlR X (rSlA X.K) := by
  intro pins s σ H x v vl vu lo hi sl Q I rx hs pl pu h
  obtain ⟨a, xs, rfl, hx, h1, h2, q⟩ := h
  cases rx
  obtain ⟨its, r, ht, hz⟩ := I.tuple hx
  have hlen : its.toArray.size = xs.length := by rw [List.size_toArray]; exact r.length.symm
  exact ⟨"tuple", _, PyProof.Rows.slot_tuple_getitem.lookup, ht.typeIs, getItem_tuple_whole ht hs pl pu (by rw [hlen]; exact ⟨h1, h2⟩) ⟨.ref a, H, I, rfl, q⟩⟩
def bSl : PV → Option Int → Option Int → Sto → Post → Prop
  | .tup xs, lo, hi, S, Q => Q (.tup (cutP xs lo hi)) S
  | .ref n, lo, hi, S, Q => ∃ xs, SL S n xs ∧ Q (.ref S.length) (S ++ [.lst (cutP xs lo hi)])
  | .str z, lo, hi, S, Q => z.length ≤ sizeLine ∧ Q (.str (cutS z lo hi)) S
  | .kls xs, lo, hi, S, Q => Q (.ref S.length) (S ++ [.lst (cutP xs lo hi)])
  | _, _, _, _, _ => False
def wSl (f : WE) (fl fh : WO) : WE := fun fr S Q => f fr S fun x S1 => fl fr S1 fun l S2 => fh fr S2 fun u S3 => bSl x l u S3 Q
theorem j_slice (he : JE X e fe) (hl : JO X lo fl) (hh : JO X hi fh) : JE X (.Subscript e (.Slice lo hi none p2) pos) (wSl fe fl fh) :=
  ⟨pe_imp (pe_slice (SlR.or sl_tupW (SlR.or sl_tup (SlR.or sl_list sl_str))) he.pe hl.po hh.po) fun σ H Q ⟨ι, fr, S, Qp, hF, hS, hf, k⟩ => ⟨ι, fr, S, _, hF, hS, hf, fun ι1 H1 S1 x v f1 s1 r1 q1 =>
    ⟨ι1, fr, S1, _, hF.fut f1, s1, q1, fun ι2 H2 S2 l f2 s2 q2 => ⟨ι2, fr, S2, _, hF.fut (f1.trans f2), s2, q2, fun ι3 H3 S3 u f3 s3 q3 => by
      have f13 := (f1.trans f2).trans f3
      have r3 := r1.fut (f2.trans f3)
      cases r3 with
      | tup ha ra =>
        rename_i a xs vs
        by_cases hw : HT.sIx vs.length 0 l = 0 ∧ HT.sIx vs.length vs.length u = vs.length
        · refine .inl ⟨a, vs, rfl, ha.sq, hw.1, hw.2, ?_⟩
          refine k ι3 H3 S3 (.tup xs) _ f13 s3 (.tup ha ra) ?_
          have q : Qp (.tup (cutP xs l u)) S3 := q3
          rwa [cutP_whole xs (by rw [ra.length]; exact hw.1) (by rw [ra.length]; exact hw.2)] at q
        · exact .inr (.inl ⟨a, vs, rfl, ha.sq, hw, new_tup s3 (ra.cut l u) (fun ι' H' S' p v f4 => k ι' H' S' p v (f13.trans f4)) q3⟩)
      | ref ha =>
        obtain ⟨xs, h1, q⟩ := q3
        obtain ⟨vs, h2, r2⟩ := s3.sl ha h1
        exact .inr (.inr (.inl ⟨_, vs, rfl, h2, new_list s3 (r2.cut l u) (fun ι' H' S' p v f4 => k ι' H' S' p v (f13.trans f4)) q⟩))
      | kls ha ra => exact .inr (.inr (.inl ⟨_, _, rfl, ha.sq, new_list s3 (ra.cut l u) (fun ι' H' S' p v f4 => k ι' H' S' p v (f13.trans f4)) q3⟩))
      | str z => exact .inr (.inr (.inr ⟨z, rfl, q3.1, k ι3 H3 S3 _ _ f13 s3 (.str _) q3.2⟩))
      | _ => exact q3.elim⟩⟩⟩⟩
end
end M

namespace M
open PySem PySem.Spec PyProof.Rows L2
variable [Tabs]

/-! ### s[::-1] -/
theorem Vals.rev : ∀ {xs : List V} {us : List Value}, Vals xs us → Vals xs.reverse us.reverse
  | _, _, .nil => .nil
  | _, _, .cons r t => by rw [List.reverse_cons, List.reverse_cons]; exact Vals.append (Vals.rev t) (.cons r .nil)
end M

namespace M
open PySem PySem.Spec PyProof.Rows L2
variable [Tabs]

/-! ### dicts with keys that are ints and texts -/
def keyP : PV → Option Key
  | .int i => some (.inl i)
  | .str x => some (.inr x)
  | _ => none
def valP (kvs : List (Key × PV)) (k : Key) : Option PV := (kvs.find? fun kv => decide (kv.1 = k)).map (·.2)
def putP (kvs : List (Key × PV)) (k : Key) (v : PV) : List (Key × PV) := if (kvs.any fun kv => decide (kv.1 = k)) then kvs.map (fun kv => if kv.1 = k then (kv.1, v) else kv) else kvs ++ [(k, v)]
section
variable {K : PySem.W.Frag} {ι : List Addr} {H : Hp} {S : Sto}
theorem RV.key {p : PV} {v : V} {k : Key} (r : RV K ι H p v) (h : keyP p = some k) : v = kV k := by
  cases r <;> first | (cases h; rfl) | cases h
theorem RKs.val {k : Key} : ∀ {ps : List (Key × PV)} {vs : List (Key × V)}, RKs K ι H ps vs → ∀ {p : PV}, valP ps k = some p → ∃ v, valV vs k = some v ∧ RV K ι H p v
  | _, _, .nil, _, h => by cases h
  | _, _, .cons (k := k') (p := p') (v := v') r t, p, h => by
    unfold valP at h
    unfold valV
    rw [List.find?_cons] at h ⊢
    by_cases e : k' = k
    · rw [show (decide ((k', p').1 = k)) = true from decide_eq_true e] at h
      rw [show (decide ((k', v').1 = k)) = true from decide_eq_true e]
      cases h
      exact ⟨v', rfl, r⟩
    · rw [show (decide ((k', p').1 = k)) = false from decide_eq_false e] at h
      rw [show (decide ((k', v').1 = k)) = false from decide_eq_false e]
      exact RKs.val t h
theorem RKs.any {k : Key} : ∀ {ps : List (Key × PV)} {vs : List (Key × V)}, RKs K ι H ps vs → (vs.any fun kv => decide (kv.1 = k)) = (ps.any fun kv => decide (kv.1 = k))
  | _, _, .nil => rfl
  | _, _, .cons r t => by rw [List.any_cons, List.any_cons, RKs.any t]
theorem RKs.app {κ : Type} : ∀ {ps qs : List (κ × PV)} {vs ws : List (κ × V)}, RKs K ι H ps vs → RKs K ι H qs ws → RKs K ι H (ps ++ qs) (vs ++ ws)
  | _, _, _, _, .nil, s => s
  | _, _, _, _, .cons r t, s => .cons r (RKs.app t s)
theorem RKs.repl {k : Key} {p : PV} {v : V} (rp : RV K ι H p v) : ∀ {ps : List (Key × PV)} {vs : List (Key × V)}, RKs K ι H ps vs → RKs K ι H (ps.map fun kv => if kv.1 = k then (kv.1, p) else kv) (vs.map fun kv => if kv.1 = k then (kv.1, v) else kv)
  | _, _, .nil => .nil
  | _, _, .cons (k := k') r t => by
    rw [List.map_cons, List.map_cons]
    by_cases e : k' = k
    · rw [if_pos e, if_pos e]
      exact .cons rp (RKs.repl rp t)
    · rw [if_neg e, if_neg e]
      exact .cons r (RKs.repl rp t)
theorem RKs.put {k : Key} {p : PV} {v : V} {ps : List (Key × PV)} {vs : List (Key × V)} (r : RKs K ι H ps vs) (rp : RV K ι H p v) : RKs K ι H (putP ps k p) (putK vs k v) := by
  unfold putP putK
  rw [r.any]
  split
  · exact r.repl rp
  · exact r.app (.cons rp .nil)
def mergeP (kvs more : List (Key × PV)) : List (Key × PV) := more.foldl (fun acc kv => putP acc kv.1 kv.2) kvs
theorem RKs.merge {more : List (Key × PV)} {vm : List (Key × V)} (m : RKs K ι H more vm) : ∀ {ps : List (Key × PV)} {vs : List (Key × V)}, RKs K ι H ps vs → RKs K ι H (mergeP ps more) (mergeK vs vm) := by
  induction m with
  | nil => intro ps vs r; exact r
  | cons rp t ih => intro ps vs r; exact ih (r.put rp)
end
/-- what is read of a key -/
def DGetP (S : Sto) (x y : PV) (p : PV) : Prop := ∃ n kvs k, x = .ref n ∧ S[n]? = some (.dct kvs) ∧ keyP y = some k ∧ valP kvs k = some p
def wDGet (fo fi : WE) : WE := fun fr S Q => fo fr S fun x S1 => fi fr S1 fun y S2 => ∃ p, DGetP S2 x y p ∧ Q p S2
section
variable {X : Cx} {o i value : Expr} {fo fi fv : WE} {pos pos' : Pos}
theorem j_dget (hu : X.A.units + 1 < cLine) (ho : JE X o fo) (hi : JE X i fi) (hs : NoSl i := by exact fun _ _ => rfl) : JE X (.Subscript o i pos) (wDGet fo fi) :=
  ⟨pe_imp (pe_dget hu ho.pe hi.pe hs) fun σ H Q ⟨ι, fr, S, Qp, hF, hS, hf, k⟩ => ⟨ι, fr, S, _, hF, hS, hf, fun ι1 H1 S1 x v f1 s1 r1 q1 => ⟨ι1, fr, S1, _, hF.fut f1, s1, q1, fun ι2 H2 S2 y w f2 s2 r2 q2 => by
    obtain ⟨p, ⟨n, kvs, ky, rfl, h1, h2, h3⟩, q⟩ := q2
    cases r1.fut f2 with
    | ref ha =>
      obtain ⟨ws, e1, r3⟩ := s2.there h1 ha
      obtain ⟨u, e2, r4⟩ := r3.val h3
      refine ⟨_, u, rfl, ?_, k ι2 H2 S2 p u (f1.trans f2) s2 r4 q⟩
      rw [r2.key h2, ← e2]
      exact DGet.k e1⟩⟩⟩
def wDPut (fo fi fv : WE) : WS := fun D fr S => fv fr S fun v S1 => fo fr S1 fun x S2 => fi fr S2 fun y S3 => ∃ n kvs k, x = .ref n ∧ S3[n]? = some (.dct kvs) ∧ keyP y = some k ∧ kvs.length < sizeLine ∧ D.nx fr (S3.set n (.dct (putP kvs k v)))
theorem js_dput (hu : X.A.units + 1 < cLine) (ho : JE X o fo) (hi : JE X i fi) (hv : JE X value fv) (hs : swapsWith value (some (.Subscript o i pos')) pos.line X.env = pure false := by rfl) :
    JS X (.Assign [.Subscript o i pos'] value pos) (wDPut fo fi fv) := ⟨ps_imp (ps_dput hu ho.pe hi.pe hv.pe hs) fun D σ H ⟨ι, fr, S, P, hF, hS, hf, l⟩ => ⟨ι, fr, S, _, hF, hS, hf, fun ι1 H1 S1 p v f1 s1 r1 q1 =>
    ⟨ι1, fr, S1, _, hF.fut f1, s1, q1, fun ι2 H2 S2 x w f2 s2 r2 q2 => ⟨ι2, fr, S2, _, hF.fut (f1.trans f2), s2, q2, fun ι3 H3 S3 y u f3 s3 r3 q3 => by
      obtain ⟨n, kvs, ky, rfl, h1, h2, h3, q⟩ := q3
      have f13 := (f1.trans f2).trans f3
      cases r2.fut f3 with
      | ref ha =>
        obtain ⟨ws, e1, r4⟩ := s3.there h1 ha
        have rp := r1.fut (f2.trans f3)
        have f4 := fut_upd (o := .dK (putK ws ky v)) s3 ha h1
        refine ⟨_, _, rfl, by rw [r3.key h2]; exact DPut.k e1 (by rw [← r4.length]; exact h3), ?_⟩
        exact l.nx ι3 _ _ fr σ (f13.trans f4) (s3.upd ha h1 (m' := .dct (putP kvs ky p)) ⟨_, upd_same, (r4.put rp).fut f4⟩) ((hF.fut f13).fut f4) q⟩⟩⟩⟩
end

/-! ### a dict that is written out -/
def wPairs : List (WE × WE) → Fr → Sto → (List (PV × PV) → Sto → Prop) → Prop
  | [], _, S, Q => Q [] S
  | (fk, fv) :: r, fr, S, Q => fk fr S fun x S1 => fv fr S1 fun y S2 => wPairs r fr S2 fun ps S3 => Q ((x, y) :: ps) S3
inductive RPs (K : PySem.W.Frag) (ι : List Addr) (H : Hp) : List (PV × PV) → List (V × V) → Prop
  | nil : RPs K ι H [] []
  | cons {p q : PV} {v w : V} {ps : List (PV × PV)} {vs : List (V × V)} : RV K ι H p v → RV K ι H q w → RPs K ι H ps vs → RPs K ι H ((p, q) :: ps) ((v, w) :: vs)
structure JPs (X : Cx) (pos : Pos) (keys : List (Option Expr)) (values : List Expr) (ws : List (WE × WE)) : Prop where
  pps : PPs X pos keys values (ws.map fun w => (tE X.K w.1, tE X.K w.2))
theorem jp_nil {X : Cx} {pos : Pos} : JPs X pos [] [] [] := ⟨pps_nil⟩
theorem jp_cons {X : Cx} {pos : Pos} {k v : Expr} {ks : List (Option Expr)} {vs : List Expr} {fk fv : WE} {ws : List (WE × WE)} (hk : JE X k fk) (hv : JE X v fv) (hr : JPs X pos ks vs ws) : JPs X pos (some k :: ks) (v :: vs) ((fk, fv) :: ws) :=
  ⟨pps_cons hk.pe hv.pe hr.pps⟩
theorem tPairs_of {K : PySem.W.Frag} : ∀ (ws : List (WE × WE)) (ι : List Addr) (fr : Fr) (S : Sto) (σ : L2.St) (H : Hp) (Qp : List (PV × PV) → Sto → Prop) (Q : List (V × V) → Hp → Prop), RF K ι H fr σ → RS K ι H S → wPairs ws fr S Qp →
    (∀ ι' H' S' ps vs, Fut K ι H ι' H' → RS K ι' H' S' → RPs K ι' H' ps vs → Qp ps S' → Q vs H') → tPairs (ws.map fun w => (tE K w.1, tE K w.2)) σ H Q
  | [], ι, fr, S, σ, H, Qp, Q, hF, hS, h, k => k ι H S [] [] .refl hS .nil h
  | (fk, fv) :: r, ι, fr, S, σ, H, Qp, Q, hF, hS, h, k => ⟨ι, fr, S, _, hF, hS, h, fun ι1 H1 S1 x v f1 s1 r1 q1 => ⟨ι1, fr, S1, _, hF.fut f1, s1, q1, fun ι2 H2 S2 y w f2 s2 r2 q2 =>
      tPairs_of r ι2 fr S2 σ H2 _ _ (hF.fut (f1.trans f2)) s2 q2 fun ι3 H3 S3 ps vs f3 s3 r3 q3 => k ι3 H3 S3 _ _ ((f1.trans f2).trans f3) s3 (.cons (r1.fut (f2.trans f3)) (r2.fut f3) r3) q3⟩⟩
theorem RPs.keys {K : PySem.W.Frag} {ι : List Addr} {H : Hp} : ∀ {kvs : List (Key × PV)} {ps : List (PV × PV)} {vs : List (V × V)}, RPs K ι H ps vs → ps.map (fun q => (keyP q.1, q.2)) = kvs.map (fun kv => (some kv.1, kv.2)) →
    ∃ ws : List (Key × V), vs = ws.map (fun kv => (kV kv.1, kv.2)) ∧ RKs K ι H kvs ws
  | kvs, _, _, .nil, e => by
    cases kvs with
    | nil => exact ⟨[], rfl, .nil⟩
    | cons _ _ => cases e
  | kvs, _, _, .cons (p := p) (q := q) (v := v) (w := w) r1 r2 t, e => by
    cases kvs with
    | nil => cases e
    | cons kv kvs =>
      rw [List.map_cons, List.map_cons] at e
      injection e with e1 e2
      obtain ⟨ws, e3, r3⟩ := RPs.keys t e2
      have e4 : keyP p = some kv.1 := congrArg Prod.fst e1
      have e5 : q = kv.2 := congrArg Prod.snd e1
      subst e5
      refine ⟨(kv.1, w) :: ws, ?_, .cons r2 r3⟩
      rw [List.map_cons, ← e3, r1.key e4]
def wDisp (ws : List (WE × WE)) : WE := fun fr S Q => wPairs ws fr S fun ps S1 => ∃ kvs : List (Key × PV), ps.map (fun q => (keyP q.1, q.2)) = kvs.map (fun kv => (some kv.1, kv.2)) ∧ kvs.length ≤ 15 ∧ Q (.ref S1.length) (S1 ++ [.dct (mergeP [] kvs)])
/-- something laid aside, then a thing of the store -/
theorem RS.take_in {K : PySem.W.Frag} {ι : List Addr} {H : Hp} {S : Sto} {a : Addr} {o : HO} {m : MO} (r : RS K ι H S) (ha : a ∉ ι) (hm : RO K (ι ++ [a]) (L2.upd H a o) a m) (hnt : ∀ b xs, TupP K H b xs → TupP K (L2.upd H a o) b xs) (hnb : ∀ ps, H a ≠ some (.tbl ps)) (hnx : ∀ ws, H a ≠ some (.xd ws)) (hsi : Tabs.since K (ι ++ [a]) (L2.upd H a o)) :
    RS K (ι ++ [a]) (L2.upd H a o) (S ++ [m]) where
  len := by rw [List.length_append, List.length_append, r.len]; rfl
  nd := by
    rw [List.nodup_append]
    refine ⟨r.nd, by simp, fun x hx y hy => ?_⟩
    simp only [List.mem_singleton] at hy
    subst hy
    rintro rfl
    exact ha hx
  obj := fun n u e => by
    have pre : ∀ (n : Nat) (b : Addr), ι[n]? = some b → (ι ++ [a])[n]? = some b := fun n b h => by rw [List.getElem?_append_left (List.getElem?_eq_some_iff.mp h).1]; exact h
    by_cases hl : n < S.length
    · rw [List.getElem?_append_left hl] at e
      obtain ⟨b, h1, h2⟩ := r.obj n u e
      have hb : b ≠ a := fun z => ha (z ▸ List.mem_of_getElem? h1)
      exact ⟨b, pre n b h1, RO.mv pre hnt (fun d ws z1 z2 => have nd : d ≠ a := fun z => hnx ws (by rw [← z]; exact z2); ⟨by simp only [List.mem_append, List.mem_singleton, not_or]; exact ⟨z1, nd⟩, by rw [L2.upd_ne nd]; exact z2⟩) (upd_ne hb) h2⟩
    · have hl2 : n = S.length := by
        have := (List.getElem?_eq_some_iff.mp e).1
        rw [List.length_append, List.length_singleton] at this
        omega
      subst hl2
      rw [List.getElem?_append_right (Nat.le_refl _)] at e
      simp only [Nat.sub_self, List.getElem?_cons_zero, Option.some.injEq] at e
      subst e
      refine ⟨a, ?_, hm⟩
      rw [← r.len, List.getElem?_append_right (Nat.le_refl _)]
      simp
  tab := fun P hP => let ⟨ps, e, t⟩ := r.tab P hP; ⟨ps, by rw [L2.upd_ne (fun z => hnb ps (by rw [← z]; exact e))]; exact e, t⟩
  si := hsi
theorem sqT_upd {K : PySem.W.Frag} {H : Hp} {a : Addr} {o u : HO} (h : H a = some u) (hu : HidO u) : ∀ b xs, SqT K H b xs → SqT K (upd H a o) b xs := fun b xs z => by
  rcases z with (z | ⟨ob, z⟩) | z
  · refine .inl (.inl ?_)
    rw [upd_ne (ne_of z h (by rintro rfl; exact hu))]; exact z
  · refine .inl (.inr ⟨ob, ?_⟩)
    rw [upd_ne (ne_of z h (by rintro rfl; exact hu))]; exact z
  · exact .inr z
theorem tt_upd {H : Hp} {a : Addr} {o u : HO} (h : H a = some u) (hu : HidO u) : ∀ (b : Addr) (xs : List V), H b = some (.tup xs) → upd H a o b = some (.tup xs) := fun b xs z => by
  rw [upd_ne (ne_of z h (by rintro rfl; exact hu))]; exact z
theorem fz_upd {H : Hp} {a : Addr} {o u : HO} (h : H a = some u) (hu : HidO u) : ∀ (b : Addr) (ob : Obj) (w : HO), H b = some (.frz ob w) → upd H a o b = some (.frz ob w) := fun b ob w z => by
  rw [upd_ne (ne_of z h (by rintro rfl; exact hu))]; exact z
theorem tpT_upd {K : PySem.W.Frag} {H : Hp} {a : Addr} {o u : HO} (h : H a = some u) (hu : HidO u) : ∀ b xs, TupP K H b xs → TupP K (upd H a o) b xs := TupP.mk (tt_upd h hu) (sqT_upd h hu)
theorem j_disp {X : Cx} {pos : Pos} {keys : List (Option Expr)} {values : List Expr} {ws : List (WE × WE)} (h : JPs X pos keys values ws) (hall : keys.all (·.isSome) = true := by rfl) (hl : keys.length = values.length := by rfl) (h0 : keys ≠ [] := by (intro z; cases z))
    (h15 : keys.length ≤ 15 := by decide) : JE X (.Dict keys values pos) (wDisp ws) := ⟨pe_imp (pe_disp h.pps hall hl h0 h15) fun σ H Q ⟨ι, fr, S, Qp, hF, hS, hf, k⟩ => fun p hp => by
  refine tPairs_of ws ι fr S σ _ _ _ (hF.fut (fut_new hp)) (hS.new hp) hf fun ι1 H1 S1 ps vs f1 s1 r1 q1 => ?_
  obtain ⟨kvs, e, hl, q⟩ := q1
  obtain ⟨hp1, hp2⟩ := f1.hid p (.dK []) True.intro (hS.fresh hp) upd_same
  obtain ⟨wv, rfl, rk⟩ := r1.keys e
  have nt := tpT_upd (K := X.K) (o := .dK (mergeK [] wv)) hp2 True.intro
  have nt' := sqT_upd (K := X.K) (o := .dK (mergeK [] wv)) hp2 True.intro
  have pre : ∀ (n : Nat) (b : Addr), ι1[n]? = some b → (ι1 ++ [p])[n]? = some b := fun n b h => by rw [List.getElem?_append_left (List.getElem?_eq_some_iff.mp h).1]; exact h
  refine ⟨hp2, wv, rfl, by rw [← rk.length]; exact hl, ?_⟩
  have g : Fut X.K ι H ι1 H1 := (fut_new (o := .dK []) hp).trans f1
  suffices gf : Fut X.K ι H (ι1 ++ [p]) (upd H1 p (.dK (mergeK [] wv))) from
    k (ι1 ++ [p]) _ (S1 ++ [.dct (mergeP [] kvs)]) (.ref S1.length) _ gf (s1.take_in (m := .dct (mergeP [] kvs)) hp1 ⟨_, upd_same, (rk.merge .nil).mv pre nt⟩ nt (by rw [hp2]; intro _ z; cases z) (by rw [hp2]; intro _ z; cases z) (Tabs.mono hS.si gf)) (.ref (s1.last p)) q
  refine ⟨fun n a z => pre n a (g.pre n a z), fun a xs z => nt' a xs (g.tup a xs z), fun a o z z1 z2 => ?_, fun a xs z => tt_upd hp2 True.intro a xs (g.tt a xs z), fun a ob o z => fz_upd hp2 True.intro a ob o (g.fz a ob o z)⟩
  obtain ⟨z3, z4⟩ := g.hid a o z z1 z2
  have na : a ≠ p := ne_of_none z2 hp
  exact ⟨by simp only [List.mem_append, List.mem_singleton, not_or]; exact ⟨z3, na⟩, by rw [upd_ne na]; exact z4⟩⟩

/-! ### methods of lists (and texts) -/
abbrev PM := PV → List PV → Sto → Post → Prop
def KpM (K : PySem.W.Frag) (T : String) (r : PM) (q : V → List V → Hp → VK → Prop) : Prop := ∀ (ι : List Addr) (H : Hp) (S : Sto) (x : PV) (v : V) (xs : List PV) (vs : List V) (Qp : Post) (Q : VK), RS K ι H S → RV K ι H x v → RVs K ι H xs vs → r x xs S Qp →
  (∀ ι' H' S' p v, Fut K ι H ι' H' → RS K ι' H' S' → RV K ι' H' p v → Qp p S' → Q v H') → q v vs H Q
structure MT1 (X : Cx) (T id : String) (r : PM) : Prop where
  ex : ∃ q, MtR X id q ∧ KpM X.K T r q
/-- the receiver's kind -/
def TyP (S : Sto) : String → PV → Prop
  | "list", .ref n => ∃ xs, SL S n xs
  | "str", .str _ => True
  | "tuple", .tup _ => True
  | "dict", .ref n => (∃ kvs, S[n]? = some (.dct kvs)) ∨ ∃ kvs, S[n]? = some (.dcT kvs)
  | _, _ => False
theorem TyP.ty {K : PySem.W.Frag} {ι : List Addr} {H : Hp} {S : Sto} {T : String} {p : PV} {v : V} (s : RS K ι H S) (r : RV K ι H p v) (h : TyP S T p) : tyV K T v H := by
  unfold TyP at h
  split at h
  · cases r with
    | ref ha =>
      obtain ⟨xs, hx⟩ := h
      obtain ⟨vs, h1, _⟩ := s.sl ha hx
      exact .inl ⟨rfl, vs, h1⟩
  · cases r
    rfl
  · cases r with
    | tup ha => exact .inr (.inl ⟨rfl, .inr ⟨_, ha.sq⟩⟩)
  · cases r with
    | ref ha =>
      rcases h with ⟨kvs, h⟩ | ⟨kvs, h⟩
      · obtain ⟨ws, h1, _⟩ := s.there h ha
        exact .inr (.inr (.inl ⟨rfl, .inl ⟨ws, h1⟩⟩))
      · obtain ⟨ws, h1, _⟩ := s.there h ha
        exact .inr (.inr (.inl ⟨rfl, .inr ⟨ws, h1⟩⟩))
  · exact h.elim
def wMeth (T : String) (r : PM) (fo : WE) (g : WA) : WE := fun fr S Q => fo fr S fun x S1 => TyP S1 T x ∧ g fr S1 fun vs S2 => r x vs S2 Q
section
variable {X : Cx} {T id : String} {name : Str} {o e : Expr} {es : List Expr} {fo : WE} {g : WA} {r : PM} {apos cpos : Pos}
theorem j_meth (hm : MT1 X T id r) (pa : PlainAttrs T) (slot : Slot T name id) (hty : typeOf (.builtin id) = pure (.type "method_descriptor")) (ho : JE X o fo) (ha : JA X (e :: es) g)
    (hbase : attributeBase o name X.env (eval o X.env) = eval o X.env := by rfl)
    (hfew : ((backTo cpos (starEach (e :: es) X.env)).all (fun x => !x.1) && (backToKw cpos (keywordEach [] X.env)).all (fun x => x.1.isSome)
      && decide ((e :: es).length + ([] : List Keyword).length + (if ([] : List Keyword).isEmpty then 0 else 1) < 30)) = true := by rfl)
    (hline : (apos.endLine == cpos.line) = true := by rfl) (hs : starEach (e :: es) X.env = (false, eval e X.env) :: starEach es X.env := by rfl) (hplain : (backTo cpos (starEach es X.env)).any (·.1) = false := by rfl) :
    JE X (.Call (.Attribute o name apos) (e :: es) [] cpos) (wMeth T r fo g) := by
  obtain ⟨q, h1, h2⟩ := hm.ex
  exact ⟨pe_imp (pe_bm pa slot hty h1 ho.pe ha.pa hbase hfew hline hs hplain) fun σ H Q ⟨ι, fr, S, Qp, hF, hS, hf, k⟩ => ⟨ι, fr, S, _, hF, hS, hf, fun ι1 H1 S1 x v f1 s1 r1 ⟨ty, q1⟩ => ⟨ty.ty s1 r1, ι1, fr, S1, _, hF.fut f1, s1, q1, fun ι2 H2 S2 xs vs f2 s2 r2 q2 =>
    h2 ι2 H2 S2 x v xs vs Qp Q s2 (r1.fut f2) r2 q2 fun ι' H' S' p u f3 => k ι' H' S' p u ((f1.trans f2).trans f3)⟩⟩⟩
end
/-- a list of the store becomes another one -/
theorem set_lst {K : PySem.W.Frag} {ι : List Addr} {H : Hp} {S : Sto} {n : Nat} {a : Addr} {xs ys : List PV} {ws : List V} (s : RS K ι H S) (ha : ι[n]? = some a) (h : S[n]? = some (.lst xs)) (r : RVs K ι H ys ws) :
    Fut K ι H ι (upd H a (.lst ws)) ∧ RS K ι (upd H a (.lst ws)) (S.set n (.lst ys)) :=
  ⟨fut_upd s ha h, s.upd ha h ⟨ws, upd_same, r.fut (fut_upd s ha h)⟩⟩
end M

namespace M
open PySem PySem.Spec PyProof.Rows L2
variable [Tabs]

/-! ### targets -/
abbrev WG := PV → Fr → Sto → (Fr → Sto → Prop) → Prop
abbrev WGs := List PV → Fr → Sto → (Fr → Sto → Prop) → Prop
def tG (K : PySem.W.Frag) (g : WG) : TG := fun v σ H Q => ∃ (ι : List Addr) (fr : Fr) (S : Sto) (p : PV) (Qp : Fr → Sto → Prop), RF K ι H fr σ ∧ RS K ι H S ∧ RV K ι H p v ∧ g p fr S Qp ∧
  ∀ (ι' : List Addr) (H' : Hp) (S' : Sto) (fr' : Fr) (σ' : L2.St), Fut K ι H ι' H' → RS K ι' H' S' → RF K ι' H' fr' σ' → Qp fr' S' → Q σ' H'
def tGs (K : PySem.W.Frag) (g : WGs) : TGs := fun vs σ H Q => ∃ (ι : List Addr) (fr : Fr) (S : Sto) (ps : List PV) (Qp : Fr → Sto → Prop), RF K ι H fr σ ∧ RS K ι H S ∧ RVs K ι H ps vs ∧ g ps fr S Qp ∧
  ∀ (ι' : List Addr) (H' : Hp) (S' : Sto) (fr' : Fr) (σ' : L2.St), Fut K ι H ι' H' → RS K ι' H' S' → RF K ι' H' fr' σ' → Qp fr' S' → Q σ' H'
structure JG (X : Cx) (tg : Expr) (g : WG) : Prop where
  pg : PG X tg (tG X.K g)
structure JGs (X : Cx) (tgs : List Expr) (g : WGs) : Prop where
  pgs : PGs X tgs (tGs X.K g)
theorem pg_imp {X : Cx} {e : Expr} {t t' : TG} (h : PG X e t) (i : ∀ v σ H Q, t' v σ H Q → t v σ H Q) : PG X e t' := fun pins s σ H v u Q I r q => h pins s σ H v u Q I r (i v σ H Q q)
theorem pgs_imp {X : Cx} {e : List Expr} {t t' : TGs} (h : PGs X e t) (i : ∀ v σ H Q, t' v σ H Q → t v σ H Q) : PGs X e t' := fun pins s σ H v u Q I r q => h pins s σ H v u Q I r (i v σ H Q q)
theorem RF.set {K : PySem.W.Frag} {ι : List Addr} {H : Hp} {fr : Fr} {σ : L2.St} (r : RF K ι H fr σ) (i : Nat) {p : PV} {v : V} (rv : RV K ι H p v) : RF K ι H (fr.set i (some p)) (σ.set i (some v)) where
  len := by rw [List.length_set, List.length_set, r.len]
  at_ := fun j q e => by
    by_cases h : i = j
    · subst h
      by_cases hl : i < fr.length
      · rw [List.getElem?_set_self hl] at e
        cases e
        exact ⟨v, by rw [List.getElem?_set_self (by rw [← r.len]; exact hl)], rv⟩
      · rw [List.getElem?_eq_none (by rw [List.length_set]; omega)] at e
        cases e
    · rw [List.getElem?_set_ne h] at e
      obtain ⟨w, h1, h2⟩ := r.at_ j q e
      exact ⟨w, by rw [List.getElem?_set_ne h]; exact h1, h2⟩
def pName (i : Nat) : WG := fun p fr S Q => Q (fr.set i (some p)) S
def pGNil : WGs := fun ps fr S Q => ps = [] ∧ Q fr S
def pGCons (g : WG) (h : WGs) : WGs := fun ps fr S Q => ∃ p r, ps = p :: r ∧ g p fr S fun fr' S' => h r fr' S' Q
def pGTup (n : Nat) (g : WGs) : WG := fun p fr S Q => ∃ xs, p = .tup xs ∧ xs.length = n ∧ g xs fr S Q
section
variable {X : Cx} {pos : Pos}
theorem jg_name (i : Nat) {x : Str} (hN : X.N.Nodup) (hi : X.N[i]? = some x := by rfl) (hx : Loc X.env.scope x := by first | exact Or.inl rfl | exact Or.inr rfl)
    (hf : X.fn x = true ∨ X.env.scope.names.lookup x = some .local := by first | exact .inl rfl | exact .inr rfl) : JG X (.Name x pos) (pName i) :=
  ⟨pg_imp (pg_name hN hi hx hf) fun v σ H Q ⟨ι, fr, S, p, Qp, hF, hS, hv, h, k⟩ => k ι H S _ _ .refl hS (hF.set i hv) h⟩
theorem jgs_nil : JGs X [] pGNil := ⟨pgs_imp pgs_nil fun vs σ H Q ⟨ι, fr, S, ps, Qp, hF, hS, hv, ⟨e, h⟩, k⟩ => by
  subst e
  cases hv
  exact ⟨rfl, k ι H S _ _ .refl hS hF h⟩⟩
theorem jgs_cons {e : Expr} {es : List Expr} {g : WG} {h : WGs} (h1 : JG X e g) (h2 : JGs X es h)
    (hs : (assignEach (e :: es) X.env).map (·.2) = assign e X.env :: (assignEach es X.env).map (·.2) := by rfl) : JGs X (e :: es) (pGCons g h) :=
  ⟨pgs_imp (pgs_cons h1.pg h2.pgs hs) fun vs σ H Q ⟨ι, fr, S, ps, Qp, hF, hS, hv, ⟨p, r, e, q⟩, k⟩ => by
    subst e
    cases hv with
    | cons r1 r2 => exact ⟨_, _, rfl, ι, fr, S, p, _, hF, hS, r1, q, fun ι1 H1 S1 fr1 σ1 f1 s1 F1 q1 => ⟨ι1, fr1, S1, r, Qp, F1, s1, r2.fut f1, q1, fun ι' H' S' fr' σ' f2 => k ι' H' S' fr' σ' (f1.trans f2)⟩⟩⟩
theorem jg_tup {es : List Expr} {k n : Nat} {g : WGs} (h : JGs X es g) (hc : X.calm = true := by rfl)
    (hn : (assignEach es X.env).length = n := by rfl) (hst : (assignEach es X.env).findIdx? (·.1) = none := by rfl) : JG X (.Tuple es k pos) (pGTup n g) :=
  ⟨pg_imp (pg_tup hc h.pgs hn hst) fun v σ H Q ⟨ι, fr, S, p, Qp, hF, hS, hv, ⟨xs, e, hl, q⟩, kk⟩ => by
    subst e
    cases hv with
    | tup ha ra => exact ⟨_, _, rfl, ha.sq, by rw [← ra.length]; exact hl, ι, fr, S, xs, Qp, hF, hS, ra, q, kk⟩⟩
end

/-! ### statements -/
def wNext : WS := fun D fr S => D.nx fr S
def wSeq (f g : WS) : WS := fun D fr S => f { D with nx := g D } fr S
def wRet (f : WE) : WS := fun D fr S => f fr S D.rt
def wDrop (f : WE) : WS := fun D fr S => f fr S fun _ S1 => D.nx fr S1
def wIfS (c : WT) (f g : WS) : WS := fun D fr S => c fr S fun b S1 => if b = true then f D fr S1 else g D fr S1
def wAsg (f : WE) (g : WG) : WS := fun D fr S => f fr S fun x S1 => g x fr S1 D.nx
section
variable {X : Cx} {st : Stmt} {rest : List Stmt} {f g : WS} {e : Expr} {fe : WE} {pos : Pos}
theorem jss_nil : JSs X [] wNext := ⟨pss_imp pss_nil fun D σ H ⟨ι, fr, S, P, hF, hS, h, l⟩ => l.nx ι H S fr σ .refl hS hF h⟩
theorem jss_cons (h1 : JS X st f) (h2 : JSs X rest g) : JSs X (st :: rest) (wSeq f g) := ⟨pss_imp (pss_cons h1.ps h2.pss) fun D σ H ⟨ι, fr, S, P, hF, hS, h, l⟩ => ⟨ι, fr, S, { P with nx := g P }, hF, hS, h,
  ⟨fun ι' H' S' fr' σ' f1 s1 F1 q => ⟨ι', fr', S', P, F1, s1, q, l.fut f1⟩, l.rt, l.bk, l.ct⟩⟩⟩
theorem jss_one (h1 : JS X st f) : JSs X [st] f := ⟨pss_one h1.ps⟩
theorem js_ret (he : JE X e fe) : JS X (.Return (some e) pos) (wRet fe) := ⟨ps_imp (ps_ret he.pe) fun D σ H ⟨ι, fr, S, P, hF, hS, h, l⟩ => ⟨ι, fr, S, P.rt, hF, hS, h, fun ι' H' S' p v f1 => l.rt ι' H' S' p v f1⟩⟩
theorem js_if {c : Expr} {a b : List Stmt} {gc : WT} (hc : JT X c gc) (ha : JSs X a f) (hb : JSs X b g) : JS X (.If c a b pos) (wIfS gc f g) := ⟨ps_imp (ps_if hc.pt ha.pss hb.pss) fun D σ H ⟨ι, fr, S, P, hF, hS, h, l⟩ =>
  ⟨ι, fr, S, _, hF, hS, h, fun ι1 H1 S1 b f1 s1 q => by
    cases b with
    | true => exact iteT ⟨ι1, fr, S1, P, hF.fut f1, s1, by simpa using q, l.fut f1⟩
    | false => exact iteF ⟨ι1, fr, S1, P, hF.fut f1, s1, by simpa using q, l.fut f1⟩⟩⟩
theorem js_asg {tg : Expr} {g : WG} (he : JE X e fe) (hg : JG X tg g) (hs : swapsWithSole [tg] e pos.line X.env = pure false := by rfl) (hw : swappedStores [tg] e X.env = pure none := by rfl)
    (h1 : (assignEach [tg] X.env).map (·.2) = [assign tg X.env] := by rfl) : JS X (.Assign [tg] e pos) (wAsg fe g) := ⟨ps_imp (ps_asg he.pe hg.pg hs hw h1) fun D σ H ⟨ι, fr, S, P, hF, hS, h, l⟩ =>
  ⟨ι, fr, S, _, hF, hS, h, fun ι1 H1 S1 p v f1 s1 r1 q => ⟨ι1, fr, S1, p, P.nx, hF.fut f1, s1, r1, q, fun ι' H' S' fr' σ' f2 => l.nx ι' H' S' fr' σ' (f1.trans f2)⟩⟩⟩
/-- name = value -/
theorem js_set (i : Nat) {x : Str} {pos' : Pos} (hN : X.N.Nodup) (he : JE X e fe) (hi : X.N[i]? = some x := by rfl) (hx : Loc X.env.scope x := by first | exact Or.inl rfl | exact Or.inr rfl) (hs : swapsWith e (some (.Name x pos')) pos.line X.env = pure false := by rfl)
    (hf : X.fn x = true ∨ X.env.scope.names.lookup x = some .local := by first | exact .inl rfl | exact .inr rfl) : JS X (.Assign [.Name x pos'] e pos) (wAsg fe (pName i)) := ⟨ps_imp (ps_set hN hi hx he.pe hs hf) fun D σ H ⟨ι, fr, S, P, hF, hS, h, l⟩ =>
  ⟨ι, fr, S, _, hF, hS, h, fun ι1 H1 S1 p v f1 s1 r1 q => l.nx ι1 H1 S1 _ _ f1 s1 ((hF.fut f1).set i r1) q⟩⟩
/-- a, b = e1, e2 -/
def wPar (i j : Nat) (g : WA) : WS := fun D fr S => g fr S fun vs S1 => ∃ v w, vs = [v, w] ∧ D.nx ((fr.set i (some v)).set j (some w)) S1
theorem js_par (i j : Nat) {x y : Str} {a b : Expr} {ga : WA} {px py pt : Pos} {kt k2 pt2} (hN : X.N.Nodup) (ha : JA X [a, b] ga) (hw : swappedStores [.Tuple [.Name x px, .Name y py] kt pt] (.Tuple [a, b] k2 pt2) X.env = pure (some [x, y]) := by rfl) (hij : i ≠ j := by decide) (hi : X.N[i]? = some x := by rfl) (hj : X.N[j]? = some y := by rfl)
    (hx : X.env.scope.names.lookup x = some .local := by rfl) (hy : X.env.scope.names.lookup y = some .local := by rfl) (hc : X.calm = true := by rfl)
    (hs : swapsWithSole [.Tuple [.Name x px, .Name y py] kt pt] (.Tuple [a, b] k2 pt2) pos.line X.env = pure false := by rfl) :
    JS X (.Assign [.Tuple [.Name x px, .Name y py] kt pt] (.Tuple [a, b] k2 pt2) pos) (wPar i j ga) := ⟨ps_imp (ps_par hc hN hi hj hij hx hy ha.pa hw hs) fun D σ H ⟨ι, fr, S, P, hF, hS, h, l⟩ =>
  ⟨ι, fr, S, _, hF, hS, h, fun ι1 H1 S1 ps vs f1 s1 r1 ⟨v, w, e, q⟩ => by
    subst e
    obtain ⟨v', w', rfl, r2, r3⟩ := r1.two
    exact ⟨v', w', rfl, l.nx ι1 H1 S1 _ _ f1 s1 (((hF.fut f1).set i r2).set j r3) q⟩⟩⟩
end

/-! ### what is walked -/
inductive PIt where
  | lst (n : Nat) | its (xs : List PV)
abbrev WI := Fr → Sto → (PIt → Sto → Prop) → Prop
def RIt (K : PySem.W.Frag) (J : It) (ι : List Addr) (H : Hp) : PIt → Prop
  | .lst n => ∃ a, ι[n]? = some a ∧ J = Itl K a
  | .its xs => ∀ (ι' : List Addr) (H' : Hp), Fut K ι H ι' H' → ∀ i, (i < xs.length → J.go i H' ∧ ∀ x H2, J.yld i H' x H2 → ∃ p, xs[i]? = some p ∧ RV K ι' H2 p x ∧ Fut K ι' H' ι' H2 ∧ ∀ S, RS K ι' H' S → RS K ι' H2 S) ∧ (xs.length ≤ i → J.stop i H')
theorem RIt.fut {K : PySem.W.Frag} {J : It} {ι ι1 : List Addr} {H H1 : Hp} {p : PIt} (r : RIt K J ι H p) (f : Fut K ι H ι1 H1) : RIt K J ι1 H1 p := by
  cases p with
  | lst n => obtain ⟨a, h, e⟩ := r; exact ⟨a, f.pre n a h, e⟩
  | its xs => exact fun ι' H' g => r ι' H' (f.trans g)
def tI (K : PySem.W.Frag) (f : WI) : TI := fun σ H R => ∃ (ι : List Addr) (fr : Fr) (S : Sto) (Qp : PIt → Sto → Prop), RF K ι H fr σ ∧ RS K ι H S ∧ f fr S Qp ∧
  ∀ (ι' : List Addr) (H' : Hp) (S' : Sto) (p : PIt) (J : It), Fut K ι H ι' H' → RS K ι' H' S' → RIt K J ι' H' p → Qp p S' → R J H'
structure JI (X : Cx) (tg iter : Expr) (f : WI) : Prop where
  pi : PI X tg iter (tI X.K f)
theorem pi_imp {X : Cx} {tg e : Expr} {t t' : TI} (h : PI X tg e t) (i : ∀ σ H Q, t' σ H Q → t σ H Q) : PI X tg e t' := fun pins s σ H Q I q => h pins s σ H Q I (i σ H Q q)
/-- a list or a tuple -/
def iSeq (K : PySem.W.Frag) (tl : TE) : TI := fun σ H R => tl σ H fun x H1 => (∃ a, x = .ref a ∧ (∃ xs, SqL K H1 a xs) ∧ R (Itl K a) H1) ∨ ∃ a, x = .ref a ∧ (∃ xs, SqT K H1 a xs) ∧ R (Itt K a) H1
theorem pi_seq {X : Cx} {tg l : Expr} {tl : TE} (hl : PE X l tl) : PI X tg l (iSeq X.K tl) := by
  intro pins s σ H R I h
  refine thn (hl pins s σ H _ I h) fun v s1 ⟨x, H1, I1, r1, q1⟩ => ?_
  rcases q1 with ⟨a, e, ⟨xs, hq⟩, q⟩ | ⟨a, e, ⟨xs, hq⟩, q⟩
  · subst e
    cases r1
    obtain ⟨its, rv, p, hz⟩ := I1.list hq
    refine wpAny_pyIter_list p.isList ?_
    refine ⟨s1.heap.objs.size, [s1.heap.objs.size], _, _, H1, rfl, I1.kept (t' := s1.toks) fun b o e => Heap.get?_push_of_some _ e, turn_list a _, ⟨_, Heap.get?_push_size _ rfl, rfl, rfl⟩, fun b hb => ?_, q⟩
    have e : b = s1.heap.objs.size := by simpa using hb
    subst e
    exact I1.fpOk (Nat.le_refl _) (I1.hok.fresh (Nat.le_refl _))
  · subst e
    cases r1
    obtain ⟨its, rv, p, hz⟩ := I1.tuple hq
    refine wpAny_pyIter_tuple (show s1.heap.IsTuple a its.toArray from p) ?_
    refine ⟨s1.heap.objs.size, [s1.heap.objs.size], _, _, H1, rfl, I1.kept (t' := s1.toks) fun b o e => Heap.get?_push_of_some _ e, turn_tuple a _, ⟨_, Heap.get?_push_size _ rfl, rfl, rfl⟩, fun b hb => ?_, q⟩
    have e : b = s1.heap.objs.size := by simpa using hb
    subst e
    exact I1.fpOk (Nat.le_refl _) (I1.hok.fresh (Nat.le_refl _))
def wISeq (f : WE) : WI := fun fr S Q => f fr S fun x S1 => match x with
  | .tup xs => Q (.its xs) S1
  | .ref n => (∃ xs, SL S1 n xs) ∧ Q (.lst n) S1
  | _ => False
theorem rit_tup {K : PySem.W.Frag} {ι : List Addr} {H : Hp} {a : Addr} {xs : List PV} {vs : List V} (ha : SqT K H a vs) (ra : RVs K ι H xs vs) : RIt K (Itt K a) ι H (.its xs) := fun ι' H' f i => by
  refine ⟨fun hi => ⟨?_, fun x H2 y => ?_⟩, fun hi => ⟨vs, f.tup a vs ha, by rw [← ra.length]; exact hi⟩⟩
  · have hl : i < vs.length := by rw [← ra.length]; exact hi
    exact ⟨vs, vs[i], f.tup a vs ha, by simp [hl]⟩
  · obtain ⟨e, y⟩ := y
    subst e
    obtain ⟨p, h1, h2⟩ := ra.get' (y vs (f.tup a vs ha))
    exact ⟨p, h1, h2.fut f, .refl, fun S s => s⟩
theorem ji_seq {X : Cx} {tg l : Expr} {fl : WE} (hl : JE X l fl) : JI X tg l (wISeq fl) := ⟨pi_imp (pi_seq hl.pe) fun σ H R ⟨ι, fr, S, Qp, hF, hS, hf, k⟩ => ⟨ι, fr, S, _, hF, hS, hf, fun ι1 H1 S1 x v f1 s1 r1 q => by
  cases r1 with
  | tup ha ra => exact .inr ⟨_, rfl, ⟨_, ha.sq⟩, k ι1 H1 S1 _ _ f1 s1 (rit_tup ha.sq ra) q⟩
  | ref ha =>
    obtain ⟨⟨xs, hx⟩, q⟩ := q
    obtain ⟨vs, h1, _⟩ := s1.sl ha hx
    exact .inl ⟨_, rfl, ⟨vs, h1⟩, k ι1 H1 S1 (.lst _) _ f1 s1 ⟨_, ha, rfl⟩ q⟩
  | _ => exact q.elim⟩⟩
/-- range -/
def rangeP (lo : Int) (n : Nat) : List PV := (List.range n).map fun i => .int (lo + (i : Nat))
theorem rangeP_length (lo : Int) (n : Nat) : (rangeP lo n).length = n := by unfold rangeP; rw [List.length_map, List.length_range]
theorem rangeP_get (lo : Int) {n i : Nat} (h : i < n) : (rangeP lo n)[i]? = some (.int (lo + (i : Nat))) := by
  unfold rangeP
  rw [List.getElem?_map, List.getElem?_range h]
  rfl
theorem rit_range {K : PySem.W.Frag} {ι : List Addr} {H : Hp} (lo : Int) (n : Nat) : RIt K (Itr lo n) ι H (.its (rangeP lo n)) := fun ι' H' f i => by
  rw [rangeP_length]
  refine ⟨fun hi => ⟨hi, fun x H2 y => ?_⟩, fun hi => hi⟩
  obtain ⟨e, rfl⟩ := y
  subst e
  exact ⟨_, rangeP_get lo hi, .int _, .refl, fun S s => s⟩
def InR (i : Int) : Prop := -(2 ^ 62) ≤ i ∧ i < 2 ^ 62
def wRange1 (g : WA) : WI := fun fr S Q => g fr S fun vs S1 => ∃ j, vs = [.int j] ∧ InR j ∧ Q (.its (rangeP 0 j.toNat)) S1
section
variable {X : Cx} {tg a b : Expr} {g : WA} {p pos : Pos}
theorem ji_range1 (hm : X.mg "range" = none) (ha : JA X [a] g) (hg : Gl X "range" := by rfl) (hs : starEach [a] X.env = [(false, eval a X.env)] := by rfl) : JI X tg (.Call (.Name "range" p) [a] [] pos) (wRange1 g) :=
  ⟨pi_imp (pi_range1 hg hm ha.pa hs) fun σ H R ⟨ι, fr, S, Qp, hF, hS, hf, k⟩ => ⟨ι, fr, S, _, hF, hS, hf, fun ι1 H1 S1 ps vs f1 s1 r1 ⟨j, e, hj, q⟩ => by
    subst e
    obtain ⟨v, rfl, r⟩ := r1.one
    cases r
    exact ⟨j, rfl, hj.1, hj.2, k ι1 H1 S1 _ _ f1 s1 (rit_range 0 _) q⟩⟩⟩
end

/-! ### for -/
def runIts (g : WG) (b : WS) : List PV → PD → Fr → Sto → Prop
  | [], D, fr, S => D.nx fr S
  | x :: r, D, fr, S => g x fr S fun fr1 S1 => b ⟨runIts g b r D, D.rt, D.nx, runIts g b r D⟩ fr1 S1
def runLst (g : WG) (b : WS) (n : Nat) (all : List PV) : List PV → PD → Fr → Sto → Prop
  | [], D, fr, S => SL S n all ∧ D.nx fr S
  | x :: r, D, fr, S => SL S n all ∧ g x fr S fun fr1 S1 => b ⟨runLst g b n all r D, D.rt, D.nx, runLst g b n all r D⟩ fr1 S1
def wFor (wi : WI) (g : WG) (b : WS) : WS := fun D fr S => wi fr S fun it S1 => match it with
  | .its xs => runIts g b xs D fr S1
  | .lst n => ∃ xs, SL S1 n xs ∧ runLst g b n xs xs D fr S1
theorem drop_cons {α : Type} {xs : List α} {i : Nat} {x : α} {r : List α} (h : xs.drop i = x :: r) : xs[i]? = some x ∧ xs.drop (i + 1) = r ∧ i < xs.length := by
  have hl : i < xs.length := by
    rcases Nat.lt_or_ge i xs.length with h1 | h1
    · exact h1
    · rw [List.drop_eq_nil_of_le h1] at h; cases h
  rw [List.drop_eq_getElem_cons hl] at h
  injection h with h1 h2
  exact ⟨by rw [List.getElem?_eq_getElem hl, h1], h2, hl⟩
theorem js_for {X : Cx} {tg iter : Expr} {body : List Stmt} {wi : WI} {g : WG} {b : WS} {pos : Pos} (hi : JI X tg iter wi) (hg : JG X tg g) (hb : JSs X body b) (hp : PassesOwn (model X.prog X.w) X.A X.env X.xe := by exact PassesOwn.never) (hc : X.calm = true := by rfl)
    (hs : ∀ x, foldedSetIterable iter X.env x = pure x := by intro _; rfl) : JS X (.For tg iter body [] pos) (wFor wi g b) :=
  ⟨ps_imp (ps_for hp hc hi.pi hg.pg hb.pss hs) fun D σ H ⟨ι, fr, S, P, hF, hS, h, l⟩ => ⟨ι, fr, S, _, hF, hS, h, fun ι1 H1 S1 it J f1 s1 rj q => by
    cases it with
    | its xs =>
      refine ⟨fun i m σ' H' => ∃ ι' fr' S', Fut X.K ι1 H1 ι' H' ∧ RF X.K ι' H' fr' σ' ∧ RS X.K ι' H' S' ∧ m = xs.length - i ∧ runIts g b (xs.drop i) P fr' S', ⟨_, ι1, fr, S1, .refl, hF.fut f1, s1, rfl, q⟩, ?_⟩
      rintro i m σ' H' ⟨ι', fr', S', f2, F2, s2, rfl, q2⟩
      have rj2 := rj.fut f2 ι' H' .refl i
      cases hd : xs.drop i with
      | nil =>
        rw [hd] at q2
        have hl : xs.length ≤ i := by
          rcases Nat.lt_or_ge i xs.length with h1 | h1
          · rw [List.drop_eq_getElem_cons h1] at hd; cases hd
          · exact h1
        exact .inl ⟨rj2.2 hl, l.nx ι' H' S' fr' σ' (f1.trans f2) s2 F2 q2⟩
      | cons x r =>
        obtain ⟨hx, hr, hl⟩ := drop_cons hd
        rw [hd] at q2
        refine .inr ⟨(rj2.1 hl).1, fun σ3 H3 => ∃ ι3 fr3 S3, Fut X.K ι1 H1 ι3 H3 ∧ RF X.K ι3 H3 fr3 σ3 ∧ RS X.K ι3 H3 S3 ∧ runIts g b r P fr3 S3, ?_, ?_⟩
        · rintro σ3 H3 ⟨ι3, fr3, S3, f3, F3, s3, q3⟩
          exact ⟨xs.length - (i + 1), by omega, ι3, fr3, S3, f3, F3, s3, rfl, by rw [hr]; exact q3⟩
        · intro y H3 hy
          obtain ⟨p, hp, rp, f3, ks⟩ := (rj2.1 hl).2 y H3 hy
          rw [hx] at hp
          cases hp
          refine ⟨ι', fr', S', x, _, F2.fut f3, ks S' s2, rp, q2, fun ι4 H4 S4 fr4 σ4 f4 s4 F4 q4 => ?_⟩
          have f14 : Fut X.K ι1 H1 ι4 H4 := (f2.trans f3).trans f4
          refine ⟨ι4, fr4, S4, _, F4, s4, q4, ?_, ?_, ?_, ?_⟩
          · exact fun ι5 H5 S5 fr5 σ5 f5 s5 F5 q5 => ⟨ι5, fr5, S5, f14.trans f5, F5, s5, q5⟩
          · exact fun ι5 H5 S5 p5 v5 f5 s5 r5 q5 => l.rt ι5 H5 S5 p5 v5 ((f1.trans f14).trans f5) s5 r5 q5
          · exact fun ι5 H5 S5 fr5 σ5 f5 s5 F5 q5 => l.nx ι5 H5 S5 fr5 σ5 ((f1.trans f14).trans f5) s5 F5 q5
          · exact fun ι5 H5 S5 fr5 σ5 f5 s5 F5 q5 => ⟨ι5, fr5, S5, f14.trans f5, F5, s5, q5⟩
    | lst n =>
      obtain ⟨a, ha, rfl⟩ := rj
      obtain ⟨xs, hx0, q⟩ := q
      refine ⟨fun i m σ' H' => ∃ ι' fr' S', Fut X.K ι1 H1 ι' H' ∧ RF X.K ι' H' fr' σ' ∧ RS X.K ι' H' S' ∧ m = xs.length - i ∧ runLst g b n xs (xs.drop i) P fr' S', ⟨_, ι1, fr, S1, .refl, hF.fut f1, s1, rfl, q⟩, ?_⟩
      rintro i m σ' H' ⟨ι', fr', S', f2, F2, s2, rfl, q2⟩
      have ha2 := f2.pre n a ha
      cases hd : xs.drop i with
      | nil =>
        rw [hd] at q2
        have hl : xs.length ≤ i := by
          rcases Nat.lt_or_ge i xs.length with h1 | h1
          · rw [List.drop_eq_getElem_cons h1] at hd; cases hd
          · exact h1
        obtain ⟨vs, h1, h2⟩ := s2.sl ha2 q2.1
        exact .inl ⟨⟨vs, h1, by rw [← h2.length]; exact hl⟩, l.nx ι' H' S' fr' σ' (f1.trans f2) s2 F2 q2.2⟩
      | cons x r =>
        obtain ⟨hx, hr, hl⟩ := drop_cons hd
        rw [hd] at q2
        obtain ⟨vs, h1, h2⟩ := s2.sl ha2 q2.1
        obtain ⟨v, e1, rv⟩ := h2.get hx
        refine .inr ⟨⟨vs, v, h1, e1⟩, fun σ3 H3 => ∃ ι3 fr3 S3, Fut X.K ι1 H1 ι3 H3 ∧ RF X.K ι3 H3 fr3 σ3 ∧ RS X.K ι3 H3 S3 ∧ runLst g b n xs r P fr3 S3, ?_, ?_⟩
        · rintro σ3 H3 ⟨ι3, fr3, S3, f3, F3, s3, q3⟩
          exact ⟨xs.length - (i + 1), by omega, ι3, fr3, S3, f3, F3, s3, rfl, by rw [hr]; exact q3⟩
        · intro y H3 hy
          obtain ⟨e, hy⟩ := hy
          subst e
          have e2 := hy vs h1
          rw [e1] at e2
          cases e2
          refine ⟨ι', fr', S', x, _, F2, s2, rv, q2.2, fun ι4 H4 S4 fr4 σ4 f4 s4 F4 q4 => ?_⟩
          have f14 : Fut X.K ι1 H1 ι4 H4 := f2.trans f4
          refine ⟨ι4, fr4, S4, _, F4, s4, q4, ?_, ?_, ?_, ?_⟩
          · exact fun ι5 H5 S5 fr5 σ5 f5 s5 F5 q5 => ⟨ι5, fr5, S5, f14.trans f5, F5, s5, q5⟩
          · exact fun ι5 H5 S5 p5 v5 f5 s5 r5 q5 => l.rt ι5 H5 S5 p5 v5 ((f1.trans f14).trans f5) s5 r5 q5
          · exact fun ι5 H5 S5 fr5 σ5 f5 s5 F5 q5 => l.nx ι5 H5 S5 fr5 σ5 ((f1.trans f14).trans f5) s5 F5 q5
          · exact fun ι5 H5 S5 fr5 σ5 f5 s5 F5 q5 => ⟨ι5, fr5, S5, f14.trans f5, F5, s5, q5⟩⟩⟩
end M

namespace M
open PySem PySem.Spec PyProof.Rows L2
variable [Tabs]

theorem upd_self {H : Hp} {a : Addr} {o : HO} (h : H a = some o) : upd H a o = H := by
  funext b
  by_cases e : b = a
  · subst e; rw [upd_same, h]
  · rw [upd_ne e]
/-- a thing laid aside changes -/
theorem fut_side {K : PySem.W.Frag} {ι1 ι : List Addr} {H1 H : Hp} {D : Addr} {u o : HO} (f : Fut K ι1 H1 ι H) (h1 : H1 D = none) (h : H D = some u) (hu : HidO u) : Fut K ι1 H1 ι (upd H D o) :=
  ⟨f.pre, fun a xs z => sqT_upd h hu a xs (f.tup a xs z), fun a w z z1 z2 => ⟨(f.hid a w z z1 z2).1, by rw [upd_ne (ne_of_none z2 h1)]; exact (f.hid a w z z1 z2).2⟩, fun a xs z => tt_upd h hu a xs (f.tt a xs z), fun a ob o z => fz_upd h hu a ob o (f.fz a ob o z)⟩
theorem RS.side {K : PySem.W.Frag} {ι : List Addr} {H : Hp} {S : Sto} {D : Addr} {u o : HO} (r : RS K ι H S) (hD : D ∉ ι) (h : H D = some u) (hu : HidO u) (hx : ∀ ws, u ≠ .xd ws) (hsi : Tabs.since K ι (L2.upd H D o)) : RS K ι (L2.upd H D o) S := ⟨r.len, r.nd, fun n m e => by
  obtain ⟨b, h1, h2⟩ := r.obj n m e
  have hb : b ≠ D := fun z => hD (z ▸ List.mem_of_getElem? h1)
  exact ⟨b, h1, RO.mv (fun _ _ z => z) (tpT_upd h hu) (fun d ws z1 z2 => ⟨z1, by rw [upd_ne (ne_of z2 h (fun z => hx ws z.symm))]; exact z2⟩) (upd_ne hb) h2⟩, fun P hP => let ⟨ps, e, t⟩ := r.tab P hP; ⟨ps, by rw [upd_ne (ne_of e h (by rintro rfl; exact hu))]; exact e, t⟩, hsi⟩
theorem RVs.side {K : PySem.W.Frag} {ι : List Addr} {H : Hp} {D : Addr} {u o : HO} {ps : List PV} {vs : List V} (r : RVs K ι H ps vs) (h : H D = some u) (hu : HidO u) : RVs K ι (upd H D o) ps vs := RVs.mv (fun _ _ z => z) (tpT_upd h hu) r
/-- the end of a comprehension: the list comes into the store -/
theorem lc_end {K : PySem.W.Frag} {ι1 ι : List Addr} {H1 H : Hp} {S : Sto} {D : Addr} {ps : List PV} {vs : List V} {Qp : Post} {Q : VK} (f : Fut K ι1 H1 ι H) (h1 : H1 D = none) (hD : D ∉ ι) (h : H D = some (.lst vs)) (r : RVs K ι H ps vs) (s : RS K ι H S) (hsi : Tabs.since K ι1 H1)
    (k : ∀ ι' H' S' p v, Fut K ι1 H1 ι' H' → RS K ι' H' S' → RV K ι' H' p v → Qp p S' → Q v H') (q : Qp (.ref S.length) (S ++ [.lst ps])) : Q (.ref D) H := by
  have pre : ∀ (n : Nat) (b : Addr), ι[n]? = some b → (ι ++ [D])[n]? = some b := fun n b h => by rw [List.getElem?_append_left (List.getElem?_eq_some_iff.mp h).1]; exact h
  have nt := tpT_upd (K := K) (o := .lst vs) h True.intro
  suffices gf : Fut K ι1 H1 (ι ++ [D]) H from by
    have s' := s.take_in (m := .lst ps) hD ⟨vs, upd_same, r.mv pre nt⟩ nt (by rw [h]; intro _ z; cases z) (by rw [h]; intro _ z; cases z) (by rw [upd_self h]; exact Tabs.mono hsi gf)
    rw [upd_self h] at s'
    exact k (ι ++ [D]) H _ (.ref S.length) _ gf s' (.ref (s.last D)) q
  exact ⟨fun n a z => pre n a (f.pre n a z), f.tup, fun a o z z1 z2 => ⟨by
    simp only [List.mem_append, List.mem_singleton, not_or]
    exact ⟨(f.hid a o z z1 z2).1, ne_of_none z2 h1⟩, (f.hid a o z z1 z2).2⟩, f.tt, f.fz⟩

/-! ### comprehensions, one name -/
def wYes : WT := fun _ S Q => Q true S
structure JTs (X : Cx) (ifs : List Expr) (f : WT) : Prop where
  pts : PTs X ifs (tT X.K f)
theorem pts_imp {X : Cx} {e : List Expr} {t t' : TT} (h : PTs X e t) (i : ∀ σ H Q, t' σ H Q → t σ H Q) : PTs X e t' := fun pins s σ H Q I q => h pins s σ H Q I (i σ H Q q)
theorem jts_nil {X : Cx} : JTs X [] wYes := ⟨pts_imp pts_nil fun σ H Q ⟨ι, fr, S, Qp, hF, hS, hf, k⟩ => k ι H S true .refl hS hf⟩
theorem jts_one {X : Cx} {c : Expr} {f : WT} (h : JT X c f) : JTs X [c] f := ⟨pts_one h.pt⟩
def runLc (C : Sto → Prop) (i : Nat) (t : WT) (e : WE) : List PV → Fr → Sto → List PV → (List PV → Sto → Prop) → Prop
  | [], _, S, acc, Q => C S ∧ Q acc S
  | x :: r, fr, S, acc, Q => C S ∧ t (fr.set i (some x)) S fun b S1 => if b = true then e (fr.set i (some x)) S1 fun y S2 => acc.length < sizeLine ∧ runLc C i t e r fr S2 (acc ++ [y]) Q else runLc C i t e r fr S1 acc Q
def wLc (i : Nat) (wi : WI) (t : WT) (e : WE) : WE := fun fr S Q => wi fr S fun it S1 => match it with
  | .its xs => runLc (fun _ => True) i t e xs (fr.set i none) S1 [] fun ys S2 => Q (.ref S2.length) (S2 ++ [MO.lst ys])
  | .lst n => ∃ xs, SL S1 n xs ∧ runLc (fun S => SL S n xs) i t e xs (fr.set i none) S1 [] fun ys S2 => Q (.ref S2.length) (S2 ++ [MO.lst ys])
theorem RF.none {K : PySem.W.Frag} {ι : List Addr} {H : Hp} {fr : Fr} {σ : L2.St} (r : RF K ι H fr σ) (i : Nat) : RF K ι H (fr.set i .none) (σ.set i .none) where
  len := by rw [List.length_set, List.length_set, r.len]
  at_ := fun j q e => by
    by_cases h : i = j
    · subst h
      by_cases hl : i < fr.length
      · rw [List.getElem?_set_self hl] at e
        cases e
      · rw [List.getElem?_eq_none (by rw [List.length_set]; omega)] at e
        cases e
    · rw [List.getElem?_set_ne h] at e
      obtain ⟨w, h1, h2⟩ := r.at_ j q e
      exact ⟨w, by rw [List.getElem?_set_ne h]; exact h1, h2⟩
theorem tLc_of {K : PySem.W.Frag} {i : Nat} {wi : WI} {t : WT} {e : WE} : ∀ σ H Q, tE K (wLc i wi t e) σ H Q → tLc (tI K wi) (gName i) (tT K t) (tE K e) [i] σ H Q :=
  fun σ H Q ⟨ι, fr, S, Qp, hF, hS, h, k⟩ => ⟨ι, fr, S, _, hF, hS, h, fun ι1 H1 S1 it J f1 s1 rj q => fun D hD => by
    have wp : ∀ σ2 : L2.St, wipe σ2 [i] = σ2.set i none := fun _ => rfl
    -- a walk over xs, whose turns read as J's, C said of each state
    have main : ∀ (C : Sto → Prop) (xs : List PV), (∀ ι' H' S' j, Fut K ι1 H1 ι' H' → RS K ι' H' S' → C S' → (j < xs.length → J.go j H' ∧ ∀ x H2, J.yld j H' x H2 → ∃ p, xs[j]? = some p ∧ RV K ι' H2 p x ∧ Fut K ι' H' ι' H2 ∧ ∀ S, RS K ι' H' S → RS K ι' H2 S) ∧ (xs.length ≤ j → J.stop j H')) →
        runLc C i t e xs (fr.set i none) S1 [] (fun ys S2 => Qp (.ref S2.length) (S2 ++ [MO.lst ys])) →
        ∃ W : Nat → Nat → Hp → Prop, (∃ m, W 0 m (upd H1 D (.lst []))) ∧ ∀ j m H, W j m H → (J.stop j H ∧ Q (.ref D) H) ∨ (J.go j H ∧ ∃ Nx : Hp → Prop, (∀ H', Nx H' → ∃ m', m' < m ∧ W (j + 1) m' H') ∧ ∀ x H', J.yld j H x H' → gName i x (wipe σ [i]) H' fun σ2 H2 => wipe σ2 [i] = wipe σ [i] ∧ tT K t σ2 H2 fun b H3 =>
          if b = true then tE K e σ2 H3 fun y H4 => ∃ acc, H4 D = some (.lst acc) ∧ acc.length < sizeLine ∧ Nx (upd H4 D (.lst (acc ++ [y]))) else Nx H3) := by
      intro C xs hw q0
      have hFw : RF K ι1 H1 (fr.set i none) (σ.set i none) := (hF.fut f1).none i
      refine ⟨fun j m H' => ∃ ι' S' ps vs, Fut K ι1 H1 ι' H' ∧ D ∉ ι' ∧ H' D = some (.lst vs) ∧ RVs K ι' H' ps vs ∧ RS K ι' H' S' ∧ m = xs.length - j ∧ runLc C i t e (xs.drop j) (fr.set i none) S' ps (fun ys S2 => Qp (.ref S2.length) (S2 ++ [MO.lst ys])),
        ⟨_, ι1, S1, [], [], fut_new hD, s1.fresh hD, upd_same, .nil, s1.new hD, rfl, q0⟩, ?_⟩
      rintro j m H' ⟨ι', S', ps, vs, f2, hD2, hv, rv, s2, rfl, q2⟩
      cases hd : xs.drop j with
      | nil =>
        rw [hd] at q2
        have hl : xs.length ≤ j := by
          rcases Nat.lt_or_ge j xs.length with h1 | h1
          · rw [List.drop_eq_getElem_cons h1] at hd; cases hd
          · exact h1
        exact .inl ⟨(hw ι' H' S' j f2 s2 q2.1).2 hl, lc_end f2 hD hD2 hv rv s2 s1.si (fun ι' H' S' p v f3 => k ι' H' S' p v (f1.trans f3)) q2.2⟩
      | cons x r =>
        obtain ⟨hx, hr, hl⟩ := drop_cons hd
        rw [hd] at q2
        obtain ⟨hgo, hyl⟩ := (hw ι' H' S' j f2 s2 q2.1).1 hl
        refine .inr ⟨hgo, fun H3 => ∃ ι3 S3 ps3 vs3, Fut K ι1 H1 ι3 H3 ∧ D ∉ ι3 ∧ H3 D = some (.lst vs3) ∧ RVs K ι3 H3 ps3 vs3 ∧ RS K ι3 H3 S3 ∧ runLc C i t e r (fr.set i none) S3 ps3 (fun ys S2 => Qp (.ref S2.length) (S2 ++ [MO.lst ys])), ?_, ?_⟩
        · rintro H3 ⟨ι3, S3, ps3, vs3, a1, a2, a3, a4, a5, a6⟩
          exact ⟨xs.length - (j + 1), by omega, ι3, S3, ps3, vs3, a1, a2, a3, a4, a5, rfl, by rw [hr]; exact a6⟩
        · intro y H3 hy
          obtain ⟨p, hp, rp, f3, ks⟩ := hyl y H3 hy
          rw [hx] at hp
          cases hp
          have f13 : Fut K ι1 H1 ι' H3 := f2.trans f3
          have F3 : RF K ι' H3 ((fr.set i none).set i (some x)) ((σ.set i none).set i (some y)) := (hFw.fut f13).set i rp
          show wipe ((σ.set i none).set i (some y)) [i] = wipe σ [i] ∧ _
          refine ⟨by rw [wp, wp, List.set_set, List.set_set], ?_⟩
          obtain ⟨hD3, hv3⟩ := f3.hid D (.lst vs) True.intro hD2 hv
          refine ⟨ι', _, S', _, F3, ks S' s2, q2.2, fun ι4 H4 S4 b f4 s4 q4 => ?_⟩
          obtain ⟨hD4, hv4⟩ := f4.hid D (.lst vs) True.intro hD3 hv3
          cases b with
          | false => exact iteF ⟨ι4, S4, ps, vs, f13.trans f4, hD4, hv4, rv.fut (f3.trans f4), s4, by simpa using q4⟩
          | true =>
            refine iteT ⟨ι4, _, S4, _, F3.fut f4, s4, (by simpa using q4), fun ι5 H5 S5 p5 v5 f5 s5 r5 q5 => ?_⟩
            obtain ⟨hD5, hv5⟩ := f5.hid D (.lst vs) True.intro hD4 hv4
            have r5' := rv.fut ((f3.trans f4).trans f5)
            refine ⟨vs, hv5, by rw [← rv.length]; exact q5.1, ι5, S5, ps ++ [p5], vs ++ [v5], fut_side ((f13.trans f4).trans f5) hD hv5 True.intro, hD5, upd_same, (r5'.append (.cons r5 .nil)).side hv5 True.intro, s5.side hD5 hv5 True.intro (by intro _ z; cases z) (Tabs.mono s1.si (fut_side ((f13.trans f4).trans f5) hD hv5 True.intro)), q5.2⟩
    cases it with
    | its xs => exact main (fun _ => True) xs (fun ι' H' S' j f2 s2 _ => rj.fut f2 ι' H' .refl j) q
    | lst n =>
      obtain ⟨a, ha, rfl⟩ := rj
      obtain ⟨xs, hx0, q⟩ := q
      refine main (fun S => SL S n xs) xs (fun ι' H' S' j f2 s2 hc => ?_) q
      have ha2 := f2.pre n a ha
      obtain ⟨vs, h1, h2⟩ := s2.sl ha2 hc
      refine ⟨fun hj => ⟨?_, fun x H2 hy => ?_⟩, fun hj => ⟨vs, h1, by rw [← h2.length]; exact hj⟩⟩
      · have hl : j < vs.length := by rw [← h2.length]; exact hj
        exact ⟨vs, vs[j], h1, by simp [hl]⟩
      · obtain ⟨e, hy⟩ := hy
        subst e
        obtain ⟨p, e1, rv⟩ := h2.get' (hy vs h1)
        exact ⟨p, e1, rv, .refl, fun S s => s⟩⟩
/-- a name of the block's own: plain or kept for a block within -/
def OwnK (scope : Scope) (x : Str) : Prop := scope.names.lookup x = some .local ∨ scope.names.lookup x = some .cell
theorem lookup_relabel_cell {env : Env} : ∀ {names : List (Str × NameKind)} {x : Str}, names.lookup x = some .cell →
    (names.map fun (n, k) => if (k == NameKind.free && env.scope.kind == .function && env.kindOf n == some .cell) then (n, NameKind.cell) else (n, k)).lookup x = some .cell
  | [], _, h => by simp at h
  | (n, k) :: r, x, h => by
    have ih := @lookup_relabel_cell env r x
    show List.lookup x ((if (k == NameKind.free && env.scope.kind == .function && env.kindOf n == some .cell) = true then (n, NameKind.cell) else (n, k)) :: _) = _
    rw [List.lookup_cons] at h
    by_cases e : x = n
    · subst e
      rw [beq_self_eq_true] at h
      cases h
      rw [if_neg (by simp), List.lookup_cons, beq_self_eq_true]
    · have hb : (x == n) = false := by simpa using e
      rw [hb] at h
      by_cases hc : (k == NameKind.free && env.scope.kind == .function && env.kindOf n == some .cell) = true
      · rw [if_pos hc, List.lookup_cons, hb]; exact ih h
      · rw [if_neg hc, List.lookup_cons, hb]; exact ih h
theorem pg_own {X : Cx} {s : Shared} {H : Hp} {C : Addr} {cl : List (Str × Addr)} {fp : List Addr} {scope : Scope} {pos : Pos} {i : Nat} {x : Str} (hN : X.N.Nodup) (hi : X.N[i]? = some x) (hx : OwnK scope x) : PG (X.blk s H scope (compEnvC scope cl C X.env) fp) (.Name x pos) (gName i) := by
  rcases hx with hx | hx
  · exact pg_name (i := i) hN hi (.inl (lookup_relabel_local (env := X.env) hx)) (.inr (lookup_relabel_local (env := X.env) hx))
  · exact pg_name (i := i) hN hi (.inr (lookup_relabel_cell (env := X.env) hx)) (.inl (by show (scope.names.lookup x == some .cell) = true; rw [hx]; rfl))
section
variable {X : Cx} {elt iter : Expr} {ifs : List Expr} {scope : Scope} {x : Str} {pos px : Pos} {wi : WI} {t : WT} {e : WE}
theorem j_lc (i : Nat) (hN : X.N.Nodup) (hi : JI X (.Name x px) iter wi) (ok : blkC X.N X.env.scope scope [(x, i)] = true)
    (ht : ∀ (s : Shared) (H : Hp) (C : Addr) (cl : List (Str × Addr)) (fp : List Addr), JTs (X.blk s H scope (compEnvC scope cl C X.env) fp) ifs t)
    (he : ∀ (s : Shared) (H : Hp) (C : Addr) (cl : List (Str × Addr)) (fp : List Addr), JE (X.blk s H scope (compEnvC scope cl C X.env) fp) elt e)
    (hx : OwnK scope x := by first | exact Or.inl rfl | exact Or.inr rfl) (hc : X.calm = true := by rfl) (hs : ∀ x, foldedSetIterable iter X.env x = pure x := by intro _; rfl) : JE X (.ListComp elt [⟨.Name x px, iter, ifs, 0⟩] scope pos) (wLc i wi t e) :=
  ⟨pe_imp (pe_lc (own := [(x, i)]) hc hN hi.pi (blkOk_by ok) (fun s H C cl fp => pg_own hN ((blkOk_by ok).ix (x, i) List.mem_cons_self) hx) (fun s H C cl fp => (ht s H C cl fp).pts) (fun s H C cl fp => (he s H C cl fp).pe) hs) tLc_of⟩
end

/-- a built-in type's name -/
theorem j_tyname {X : Cx} {x : Str} {pos : Pos} (T : String) (hm : X.mg x = none) (hv : bootBuiltins x = some (.type T) := by rfl) (hg : Gl X x := by rfl) (hn : x ≠ "__name__" := by decide) (hd : (x == ("__debug__" : Str)) = false := by decide) : JE X (.Name x pos) (wC (.ty T)) :=
  jc (pe_bltn (v := .ty T) hg hm hv rfl hn hd) fun _ _ _ => .ty T

/-! ### a def keeps what it promises -/
def startP (N : List Str) (ps : List PV) : Fr := ps.map some ++ List.replicate (N.length - ps.length) none
theorem RVs.start {K : PySem.W.Frag} {ι : List Addr} {H : Hp} : ∀ {ps : List PV} {vs : List V} (n : Nat), RVs K ι H ps vs → RF K ι H (ps.map some ++ List.replicate n none) (vs.map some ++ List.replicate n none) := fun {ps vs} n r => ⟨by simp [r.length], fun i p e => by
  by_cases hi : i < ps.length
  · rw [List.getElem?_append_left (by rw [List.length_map]; exact hi), List.getElem?_map] at e
    cases hp : ps[i]? with
    | none => rw [hp] at e; cases e
    | some q =>
      rw [hp] at e
      cases e
      obtain ⟨v, h1, h2⟩ := r.get hp
      refine ⟨v, ?_, h2⟩
      rw [List.getElem?_append_left (by rw [List.length_map, ← r.length]; exact hi), List.getElem?_map, h1]
      rfl
  · rw [List.getElem?_append_right (by rw [List.length_map]; omega), List.getElem?_replicate] at e
    split at e
    · cases e
    · cases e⟩
theorem def_ok {P : Program} {w : World} {K : PySem.W.Frag} {mg : Str → Option Value} {base : Heap} {x qual : Str} {st : Stmt} {f : Addr} {fd : FuncData} {N ps : List Str} {k : Nat} {sp : PSp} (F : Fun K x qual st f fd) (S : FnScope N ps (defScope st))
    (len : ∀ vs S Q, sp vs S Q → vs.length = ps.length)
    (hbody : ∃ ws : WS, (∀ (cdv : Value) (A : Around) (outer : List Env) (s : Shared) (H : Hp) (E : XK), Room k (A.deeper (envOfC qual (defScope st) s.heap.objs.size f cdv)) →
      JSs (cxOf CX0 P w K mg base N qual (defScope st) f cdv A outer s H E).nox (defBody st) ws) ∧ ∀ vs S Q, sp vs S Q → ws { nx := fun _ S' => Q .non S', rt := Q } (startP N vs) S) : FnOk P w K mg base CX0 (k + 1) f fd ps (liftSp K sp) := by
  obtain ⟨ws, hj, hr⟩ := hbody
  refine F.ok S (fun vs H Q E ⟨ι, S0, qs, Qp, _, rv, h, _⟩ => by rw [← rv.length]; exact len qs S0 Qp h) fun cdv A outer s H vs Q E hroom ⟨ι, S0, qs, Qp, hS, rv, h, kk⟩ => ⟨_, (hj cdv A outer s H E hroom).pss, ?_⟩
  have hF : RF K ι H (startP N qs) (L2.start N vs) := by
    unfold startP L2.start
    rw [rv.length]
    exact rv.start _
  exact ⟨ι, startP N qs, S0, _, hF, hS, hr qs S0 Qp h, ⟨fun ι' H' S' fr' σ' f1 s1 _ q => kk ι' H' S' .non .non f1 s1 .non q, fun ι' H' S' p v f1 s1 r q => kk ι' H' S' p v f1 s1 r q, fun _ _ _ _ _ _ _ _ z => z.elim, fun _ _ _ _ _ _ _ _ z => z.elim⟩⟩
theorem fn_mk {P : Program} {w : World} {K : PySem.W.Frag} {mg : Str → Option Value} {base : Heap} {x : Str} {f : Addr} {fd : FuncData} {ps : List Str} {k : Nat} {sp : PSp} (h : FnOk P w K mg base CX0 k f fd ps (liftSp K sp)) (hm : mg x = some (.ref f)) (hk : PySem.W.keepIn K (.ref f) = true) (hb : Binds K fd ps []) :
    Fn P w K mg base k x sp := ⟨f, fd, ps, h, hm, hk, hb⟩
/-- the law itself: its list of ints lies in the store, or among the module's own objects -/
def spLaw : PSp := fun vs S Q => ∃ ns : List Int, ns.length ≤ 63 ∧ ((vs = [.ref 0] ∧ S = [.ro (ns.map PV.int)]) ∨ (vs = [.kls (ns.map PV.int)] ∧ S = [])) ∧ ∀ S', Q (.bl true) S'
/-- nothing is tracked but the script and the tables -/
def OnlyT (H : Hp) : Prop := ∀ b, H b = none ∨ (∃ o xs, H b = some (.frz o (.lst xs))) ∨ (Tabs.T b ∧ H b = some (.tbl #[]))
def TabsIn (H : Hp) : Prop := ∀ P, Tabs.T P → ∃ ps : Array Value, H P = some (.tbl ps) ∧ TriplesOk ps.toList
theorem law_sp {K : PySem.W.Frag} {H : Hp} {a : Addr} {ns : List Int} {E : XK} (hl : ns.length ≤ 63) (hO : OnlyT H) (hT : TabsIn H) (hS : SqL K H a (ns.map V.int)) (hsi : ∀ ι H, Tabs.since K ι H) : liftSp K spLaw [.ref a] H (fun v _ => v = .bl true) E := by
  rcases hS with (h | ⟨o, h⟩) | h
  · rcases hO a with z | ⟨o, xs, z⟩ | ⟨_, z⟩
    · rw [h] at z; cases z
    · rw [h] at z; cases z
    · rw [h] at z; cases z
  · refine ⟨[a], [.ro (ns.map PV.int)], [.ref 0], fun p _ => p = .bl true, ⟨rfl, by simp, fun n m e => ?_, hT, hsi _ _⟩, .cons (.ref rfl) .nil, ⟨ns, hl, .inl ⟨rfl, rfl⟩, fun _ => rfl⟩, fun ι' H' S' p v _ _ r q => by subst q; cases r; rfl⟩
    cases n with
    | zero =>
      simp only [List.getElem?_cons_zero, Option.some.injEq] at e
      subst e
      exact ⟨a, rfl, _, ⟨o, h⟩, .ints ns⟩
    | succ n => simp at e
  · exact ⟨[], [], [.kls (ns.map PV.int)], fun p _ => p = .bl true, ⟨rfl, List.nodup_nil, fun n m e => by simp at e, hT, hsi _ _⟩, .cons (.kls h (.ints ns)) .nil, ⟨ns, hl, .inr ⟨rfl, rfl⟩, fun _ => rfl⟩, fun ι' H' S' p v _ _ r q => by subst q; cases r; rfl⟩
end M

namespace M
open PySem PySem.Spec PyProof.Rows L2
variable [Tabs]

/-- the head: the script and the tables are tracked -/
theorem law_callT {P : Program} {w : World} {K : PySem.W.Frag} {mg mb : Str → Option Value} {k : Nat} {fa a : Addr} {fd : FuncData} {x : Str} {sp : Sp} {s₁ : Shared} {vs : List Value} {ns : List Int}
    (KX : K.In s₁.heap) (hns : s₁.heap.Ns mainGlobals mg) (hb : s₁.heap.Ns builtinsNs mb) (hbb : ∀ x : Str, x ≠ "__name__" → mb x = bootBuiltins x) (hlim : s₁.heap.NoLimit) (hbm : BMod mg s₁.heap) (hg : s₁.gens = #[])
    (hTb : ∀ P, Tabs.T P → s₁.heap.get? P = some (PySem.W.tabObj #[]) ∧ isCodeTable s₁.heap P) (hKT : PySem.W.noTabs K = true)
    (ha : s₁.heap.get? a = some { cls := .type "list", data := .seq vs.toArray }) (hi : IntsAre vs ns) (hl : ns.length ≤ sizeLine) (hr : Room k callerA)
    (F : ∀ base : Heap, K.In base → base.Ns mainGlobals mg → BMod mg base → FnOk P w K mg base CX0 k fa fd [x] sp) (hbind : ∀ (s : Shared) (u : Value), BindsTo s fd ⟨[u], []⟩ [(x, u)])
    (hsp : ∀ H : Hp, OnlyT H → TabsIn H → SqL K H a (ns.map V.int) → sp [.ref a] H (fun v _ => v = .bl true) fun _ _ _ => False) :
    codeAny (model P w) callerA (.call (.ref fa) ⟨[.ref a], []⟩) (fun r s' => r = .ok (.ret (.bool true)) ∧ OldK s₁.heap s'.heap ∧ s'.os = s₁.os ∧ AllBare s'.gens) s₁ := by
  have rv := vals_ints hi
  have lenV := hi.length
  have aT : ¬ Tabs.T a := fun z => by
    have := (hTb a z).1
    rw [ha] at this; cases this
  have core : ∀ H : Hp, OnlyT H → (∀ P, Tabs.T P → H P = some (.tbl #[])) → SqL K H a (ns.map V.int) → (∀ u, H a = some u → ObjOk P w H s₁.heap a u) → (∀ b, H b ≠ none → b = a ∨ Tabs.T b) → (H a ≠ none → K.lookup a = none) →
      codeAny (model P w) callerA (.call (.ref fa) ⟨[.ref a], []⟩) (fun r s' => r = .ok (.ret (.bool true)) ∧ OldK s₁.heap s'.heap ∧ s'.os = s₁.os ∧ AllBare s'.gens) s₁ := by
    intro H hO hTH hS hoka hA hK
    have hok : HOk P w H s₁.heap := fun b u e => by
      rcases hA b (by rw [e]; simp) with z | z
      · subst z; exact hoka u e
      · rw [hTH b z] at e
        cases e
        exact (hTb b z).1
    have base_of : ∀ {b : Addr} {o : Obj}, s₁.heap.get? b = some o → H b = none → (hidT s₁.heap H).get? b = some o := fun e n => hidT_get e n
    -- what is no list and no table isn't tracked
    have noA : ∀ {b : Addr} {o : Obj}, s₁.heap.get? b = some o → o.cls ≠ .type "list" → o ≠ PySem.W.tabObj #[] → H b = none := fun {b o} e d1 d2 => by
      cases q : H b with
      | none => rfl
      | some u =>
        rcases hA b (by rw [q]; simp) with e' | e'
        · subst e'
          rw [ha] at e; cases e
          exact absurd rfl d1
        · rw [(hTb b e').1] at e; cases e
          exact absurd rfl d2
    have noD : ∀ {b : Addr} {o : Obj} {es : Array DictEntry} {ep : Nat}, s₁.heap.get? b = some o → o.data = .dict es ep → H b = none := fun {b o es ep} e d => by
      cases q : H b with
      | none => rfl
      | some u =>
        rcases hA b (by rw [q]; simp) with e' | e'
        · subst e'
          rw [ha] at e; cases e
          have d' : Data.seq vs.toArray _ = Data.dict es ep := d
          cases d'
        · rw [(hTb b e').1] at e; cases e
          have d' : Data.fields #[] = Data.dict es ep := d
          cases d'
    have nsK : ∀ {b : Addr} {m : Str → Option Value}, s₁.heap.Ns b m → (hidT s₁.heap H).Ns b m := fun {b m} ⟨o, es, ep, e, d, r⟩ => ⟨o, es, ep, base_of e (noD e d), d, r⟩
    have hKb : K.In (hidT s₁.heap H) := fun b o e => base_of (KX b o e) (by
      cases q : H b with
      | none => rfl
      | some u =>
        rcases hA b (by rw [q]; simp) with e' | e'
        · subst e'
          rw [hK (by rw [q]; simp)] at e; cases e
        · have h2 := List.all_eq_true.mp hKT (b, o) (PySem.W.mem_of_lookupK e)
          have h3 := KX b o e
          rw [(hTb b e').1] at h3; cases h3
          exact absurd (show false = true from h2) Bool.false_ne_true)
    have hM : Mod K mg (hidT s₁.heap H) := ⟨hKb, nsK hns, ⟨mb, nsK hb, hbb⟩, let ⟨mc, h1, h2⟩ := hlim; ⟨mc, nsK h1, h2⟩⟩
    have hbm' : BMod mg (hidT s₁.heap H) := by
      obtain ⟨bm, ob, b1, b2, b3, b4, b5, b6⟩ := hbm
      exact ⟨bm, ob, b1, b2, base_of b3 (noA b3 (by rw [b4]; intro z; injection z with z; exact absurd z (by decide)) (by rintro rfl; cases b4)), b4, b5, b6⟩
    have e0 : Env0 P w K mg (hidT s₁.heap H) callerA [] s₁ H := ⟨rfl, hM, fun b o e => of_hidT e, Nat.le_of_eq (hidT_size _ _), trivial, fun b hb => absurd (show b ∈ ([] : List Addr) from hb) (by simp), hok, .of_eq hg⟩
    refine codeAny_mono ((F _ hKb (nsK hns) hbm').run callerA [] s₁ H ⟨[.ref a], []⟩ [.ref a] [.ref a] _ _ hr e0 (hbind s₁ (.ref a)) (.cons rfl .nil) (hsp H hO (fun P hP => ⟨#[], hTH P hP, True.intro⟩) hS)) fun r s' h => ?_
    cases r with
    | error e => exact h.elim
    | ok fl =>
      cases fl with
      | next => exact False.elim h
      | brk => exact False.elim h
      | cont => exact False.elim h
      | ret u =>
        obtain ⟨v, H', os, bare, un, hok', r', q⟩ := h
        have q' : v = .bl true := q
        subst q'
        obtain rfl : u = Value.bool true := r'
        refine ⟨rfl, ⟨fun b o e => ?_, fun b o e => un.there b o e (by simp)⟩, os, bare⟩
        cases q : H b with
        | none => exact .inl (un.keep b o e q (by intro z; exact absurd (show b ∈ ([] : List Addr) from z) (by simp)) (by simp))
        | some u =>
          rcases hO b with z | ⟨ob, xs, z⟩ | ⟨hT, z⟩
          · rw [q] at z; cases z
          · have z2 := un.frzs b ob _ z
            obtain ⟨e1, _⟩ := hok b _ z
            obtain ⟨e2, _⟩ := hok' b _ z2
            rw [e] at e1; cases e1
            exact .inl e2
          · obtain ⟨more, z2⟩ := un.tbls b _ z
            have e2 : s'.heap.get? b = some (PySem.W.tabObj (#[] ++ more)) := hok' b _ z2
            have e1 := (hTb b hT).1
            rw [e] at e1; cases e1
            exact .inr (.inl ⟨(hTb b hT).2, rfl, #[], more, rfl, e2⟩)
  classical
  cases hk : K.lookup a with
  | some o =>
    have e := KX a o hk
    rw [ha] at e
    cases e
    refine core (fun b => if Tabs.T b then some (.tbl #[]) else none) (fun b => ?_) (fun P hP => if_pos hP) (.inr ⟨_, vs.toArray, _, hk, rfl, rfl, rfl, by rw [List.size_toArray, lenV]; exact hl, by simpa using rv⟩) (fun u z => ?_) (fun b z => ?_) fun z => absurd (if_neg aT) z
    · by_cases hb : Tabs.T b
      · exact .inr (.inr ⟨hb, if_pos hb⟩)
      · exact .inl (if_neg hb)
    · have z' := (if_neg aT).symm.trans z
      cases z'
    · by_cases hb : Tabs.T b
      · exact .inr hb
      · exact absurd (if_neg hb) z
  | none =>
    refine core (fun b => if b = a then some (.frz { cls := .type "list", data := .seq vs.toArray } (.lst (ns.map V.int))) else if Tabs.T b then some (.tbl #[]) else none) (fun b => ?_) (fun P hP => ?_) (.inl (.inr ⟨{ cls := .type "list", data := .seq vs.toArray }, if_pos rfl⟩)) (fun u z => ?_) (fun b z => ?_) fun _ => hk
    · by_cases hb : b = a
      · exact .inr (.inl ⟨_, _, if_pos hb⟩)
      · by_cases hT : Tabs.T b
        · exact .inr (.inr ⟨hT, by simp only [if_neg hb, if_pos hT]⟩)
        · exact .inl (by simp only [if_neg hb, if_neg hT])
    · have hb : P ≠ a := fun z => aT (z ▸ hP)
      simp only [if_neg hb, if_pos hP]
    · have z' := (if_pos rfl).symm.trans z
      cases z'
      exact ⟨ha, by rw [List.length_map]; exact hl, vs, _, rv, ha⟩
    · by_cases hb : b = a
      · exact .inl hb
      · by_cases hT : Tabs.T b
        · exact .inr hT
        · exact absurd (by simp only [if_neg hb, if_neg hT]) z

/-- the tables of some defs -/
def TabsOf (K : PySem.W.Frag) (names : List Str) : Tabs := ⟨fun P => ∃ x ∈ names, ∃ c, PySem.W.tabIn K x = some (c, P), fun _ _ _ => True, fun _ _ => trivial⟩
omit [Tabs] in
theorem walk_ofT {l : PySem.W.OpenLaw} {n k : Nat} {q : Program} {loose names : List Str} {XP : (Str → Option Value) → Heap → Prop} {YP : World → Heap → Prop} {d : DefRec} {K : Params → PySem.W.Frag} {x : Str}
    (hn : l.most = some n) (hn2 : n ≤ 63) (hdf : d.params.defaults = []) (hr : Room k callerA)
    (hY : ∀ (w : World) (h : Heap), YP w h → (K w.params).In h) (hnm : ∀ x ∈ names, ∃ d, (recsOf q).find? (fun e => e.name == x) = some d)
    (F : ∀ (w : World) (mg : Str → Option Value) (fa : Addr) (h : Heap), (K w.params).In h → h.Ns mainGlobals mg → mg d.name = some (.ref fa) →
      PySem.W.noTabs (K w.params) = true ∧ ∃ fd : FuncData, (∀ (s : Shared) (u : Value), BindsTo s fd ⟨[u], []⟩ [(x, u)]) ∧
        ∀ base : Heap, (K w.params).In base → base.Ns mainGlobals mg → BMod mg base → FnOk l.prog w (K w.params) mg base CX0 k fa fd [x] (@liftSp (TabsOf (K w.params) names) (K w.params) spLaw)) :
    PySem.W.WalkO q loose XP YP l.row.toRowW d [] (fun f vs => PySem.call f vs) := by
  refine Att.attach_call hn hdf fun w s₀ s₁ mg mb fa o pm cd doc a vs ns G Y ho hd hcd hmg hobj hints hlen hg => ?_
  have KX := hY w _ Y
  obtain ⟨hKT, fd, hb, hF⟩ := F w mg fa _ KX G.T.g hmg
  letI : Tabs := TabsOf (K w.params) names
  refine law_callT KX G.T.g G.T.b G.T.builtins G.T.nolimit G.T.bmain hg (fun P hP => ?_) hKT hobj hints (Nat.le_trans hlen (Nat.le_trans hn2 (by decide))) hr hF hb fun H hO hT hS => law_sp (Nat.le_trans hlen hn2) hO hT hS fun _ _ => trivial
  obtain ⟨y, hy, c, ht⟩ := hP
  obtain ⟨d', hd'⟩ := hnm y hy
  obtain ⟨z1, z2⟩ := PySem.W.tab_of G.T KX hd' ht
  exact ⟨z2, (z1.tab z2).isCodeTable⟩
end M

namespace M
open PySem PySem.Spec PyProof.Rows L2
variable [Tabs]

theorem fut_tbl {K : PySem.W.Frag} {ι : List Addr} {H : Hp} {P : Addr} {ps qs : Array Value} (hP : H P = some (.tbl ps)) : Fut K ι H ι (upd H P (.tbl qs)) := ⟨fun _ _ h => h, fun b xs h => by
  rcases h with (h | ⟨ob, h⟩) | h
  · exact .inl (.inl (by rw [upd_ne (ne_of h hP (by intro z; cases z))]; exact h))
  · exact .inl (.inr ⟨ob, by rw [upd_ne (ne_of h hP (by intro z; cases z))]; exact h⟩)
  · exact .inr h, fun b o z h q => ⟨h, by rw [upd_ne (ne_of q hP (by rintro rfl; exact z))]; exact q⟩, fun b xs h => by rw [upd_ne (ne_of h hP (by intro z; cases z))]; exact h, fun b ob o h => by rw [upd_ne (ne_of h hP (by intro z; cases z))]; exact h⟩
theorem RS.grow {K : PySem.W.Frag} {ι : List Addr} {H : Hp} {S : Sto} {P : Addr} {ps qs : Array Value} (r : RS K ι H S) (hP : H P = some (.tbl ps)) (hq : TriplesOk qs.toList) : RS K ι (L2.upd H P (.tbl qs)) S := ⟨r.len, r.nd, fun n m e => by
  obtain ⟨b, h1, h2⟩ := r.obj n m e
  obtain ⟨u, hu, _, hk⟩ := h2.stands'
  exact ⟨b, h1, h2.fut (fut_tbl hP) (upd_ne (ne_of hu hP (hk ps)))⟩, fun P' hP' => by
  obtain ⟨ps', e, t⟩ := r.tab P' hP'
  by_cases z : P' = P
  · subst z; exact ⟨qs, upd_same, hq⟩
  · exact ⟨ps', by rw [upd_ne z]; exact e, t⟩, Tabs.mono r.si (fut_tbl hP)⟩

def runGen (C : Sto → Prop) (isAll : Bool) (i : Nat) (t : WT) (e : WE) : List PV → Fr → Sto → Post → Prop
  | [], _, S, Q => C S ∧ Q (.bl isAll) S
  | x :: r, fr, S, Q => C S ∧ t (fr.set i (some x)) S fun b S1 => if b = true then e (fr.set i (some x)) S1 fun y S2 => ∃ c, y = .bl c ∧ if c = isAll then runGen C isAll i t e r fr S2 Q else Q (.bl (!isAll)) S2 else runGen C isAll i t e r fr S1 Q
def wGen (isAll : Bool) (i : Nat) (wi : WI) (t : WT) (e : WE) : WE := fun fr S Q => wi fr S fun it S1 => match it with
  | .its xs => runGen (fun _ => True) isAll i t e xs (fr.set i none) S1 Q
  | .lst n => ∃ xs, SL S1 n xs ∧ runGen (fun S => SL S n xs) isAll i t e xs (fr.set i none) S1 Q
theorem tGen_of {K : PySem.W.Frag} {isAll : Bool} {P : Addr} {i : Nat} {wi : WI} {t : WT} {e : WE} (hT : Tabs.T P) : ∀ σ H Q, tE K (wGen isAll i wi t e) σ H Q → tGen isAll P (tI K wi) (gName i) (tT K t) (tE K e) [i] σ H Q :=
  fun σ H Q ⟨ι, fr, S, Qp, hF, hS, h, k⟩ => ⟨ι, fr, S, _, hF, hS, h, fun ι1 H1 S1 it J f1 s1 rj q => by
    obtain ⟨ps, hP, htr⟩ := s1.tab P hT
    refine ⟨ps, hP, htr, fun more hmore => ?_⟩
    have wp : ∀ σ2 : L2.St, wipe σ2 [i] = σ2.set i none := fun _ => rfl
    have f1' : Fut K ι1 H1 ι1 (upd H1 P (.tbl (ps ++ more))) := fut_tbl hP
    have main : ∀ (C : Sto → Prop) (xs : List PV), (∀ ι' H' S' j, Fut K ι1 H1 ι' H' → RS K ι' H' S' → C S' → (j < xs.length → J.go j H' ∧ ∀ x H2, J.yld j H' x H2 → ∃ p, xs[j]? = some p ∧ RV K ι' H2 p x ∧ Fut K ι' H' ι' H2 ∧ ∀ S, RS K ι' H' S → RS K ι' H2 S) ∧ (xs.length ≤ j → J.stop j H')) →
        runGen C isAll i t e xs (fr.set i none) S1 Qp →
        ∃ W : Nat → Nat → Hp → Prop, (∃ m, W 0 m (upd H1 P (.tbl (ps ++ more)))) ∧ ∀ j m H, W j m H → (J.stop j H ∧ Q (.bl isAll) H) ∨ (J.go j H ∧ ∃ Nx : Hp → Prop, (∀ H', Nx H' → ∃ m', m' < m ∧ W (j + 1) m' H') ∧ ∀ x H', J.yld j H x H' → gName i x (wipe σ [i]) H' fun σ2 H2 => wipe σ2 [i] = wipe σ [i] ∧ tT K t σ2 H2 fun b H3 =>
          if b = true then tE K e σ2 H3 fun y H4 => ∃ c, y = .bl c ∧ if c = isAll then Nx H4 else Q (.bl (!isAll)) H4 else Nx H3) := by
      intro C xs hw q0
      have hFw : RF K ι1 H1 (fr.set i none) (σ.set i none) := (hF.fut f1).none i
      refine ⟨fun j m H' => ∃ ι' S', Fut K ι1 H1 ι' H' ∧ RS K ι' H' S' ∧ m = xs.length - j ∧ runGen C isAll i t e (xs.drop j) (fr.set i none) S' Qp, ⟨_, ι1, S1, f1', s1.grow hP hmore, rfl, q0⟩, ?_⟩
      rintro j m H' ⟨ι', S', f2, s2, rfl, q2⟩
      cases hd : xs.drop j with
      | nil =>
        rw [hd] at q2
        have hl : xs.length ≤ j := by
          rcases Nat.lt_or_ge j xs.length with h1 | h1
          · rw [List.drop_eq_getElem_cons h1] at hd; cases hd
          · exact h1
        exact .inl ⟨(hw ι' H' S' j f2 s2 q2.1).2 hl, k ι' H' S' _ _ (f1.trans f2) s2 (.bl _) q2.2⟩
      | cons x r =>
        obtain ⟨hx, hr, hl⟩ := drop_cons hd
        rw [hd] at q2
        obtain ⟨hgo, hyl⟩ := (hw ι' H' S' j f2 s2 q2.1).1 hl
        refine .inr ⟨hgo, fun H3 => ∃ ι3 S3, Fut K ι1 H1 ι3 H3 ∧ RS K ι3 H3 S3 ∧ runGen C isAll i t e r (fr.set i none) S3 Qp, ?_, ?_⟩
        · rintro H3 ⟨ι3, S3, a1, a5, a6⟩
          exact ⟨xs.length - (j + 1), by omega, ι3, S3, a1, a5, rfl, by rw [hr]; exact a6⟩
        · intro y H3 hy
          obtain ⟨p, hp, rp, f3, ks⟩ := hyl y H3 hy
          rw [hx] at hp
          cases hp
          have f13 : Fut K ι1 H1 ι' H3 := f2.trans f3
          have F3 : RF K ι' H3 ((fr.set i none).set i (some x)) ((σ.set i none).set i (some y)) := (hFw.fut f13).set i rp
          show wipe ((σ.set i none).set i (some y)) [i] = wipe σ [i] ∧ _
          refine ⟨by rw [wp, wp, List.set_set, List.set_set], ?_⟩
          refine ⟨ι', _, S', _, F3, ks S' s2, q2.2, fun ι4 H4 S4 b f4 s4 q4 => ?_⟩
          cases b with
          | false => exact iteF ⟨ι4, S4, f13.trans f4, s4, by simpa using q4⟩
          | true =>
            rw [if_pos rfl] at q4
            refine iteT ⟨ι4, _, S4, _, F3.fut f4, s4, q4, fun ι5 H5 S5 p5 v5 f5 s5 r5 q5 => ?_⟩
            obtain ⟨c, rfl, q5⟩ := q5
            cases r5
            refine ⟨c, rfl, ?_⟩
            by_cases hc : c = isAll
            · rw [if_pos hc] at q5 ⊢
              exact ⟨ι5, S5, (f13.trans f4).trans f5, s5, q5⟩
            · rw [if_neg hc] at q5 ⊢
              exact k ι5 H5 S5 _ _ (f1.trans ((f13.trans f4).trans f5)) s5 (.bl _) q5
    cases it with
    | its xs => exact main (fun _ => True) xs (fun ι' H' S' j f2 s2 _ => rj.fut f2 ι' H' .refl j) q
    | lst n =>
      obtain ⟨a, ha, rfl⟩ := rj
      obtain ⟨xs, hx0, q⟩ := q
      refine main (fun S => SL S n xs) xs (fun ι' H' S' j f2 s2 hc => ?_) q
      have ha2 := f2.pre n a ha
      obtain ⟨vs, h1, h2⟩ := s2.sl ha2 hc
      refine ⟨fun hj => ⟨?_, fun x H2 hy => ?_⟩, fun hj => ⟨vs, h1, by rw [← h2.length]; exact hj⟩⟩
      · have hl : j < vs.length := by rw [← h2.length]; exact hj
        exact ⟨vs, vs[j], h1, by simp [hl]⟩
      · obtain ⟨e, hy⟩ := hy
        subst e
        obtain ⟨p, e1, rv⟩ := h2.get' (hy vs h1)
        exact ⟨p, e1, rv, .refl, fun S s => s⟩⟩

/-- a def's code and its table -/
structure CodeAt (K : PySem.W.Frag) (cdv : Value) : Prop where
  ex : ∃ c P, cdv = .ref c ∧ PySem.W.codeHdIn K c P = true ∧ Tabs.T P
def noCell (scope : Scope) : Bool := scope.names.all fun y => match y.2 with | .cell => false | _ => true
theorem noCell_of {scope : Scope} (h : noCell scope = true) : ∀ y ∈ scope.names, y.2 ≠ .cell := fun y hy z => by
  have := List.all_eq_true.mp h y hy
  rw [z] at this
  cases this
section
variable {X : Cx} {elt iter : Expr} {ifs : List Expr} {scope : Scope} {f x : Str} {p pos gpos px : Pos} {wi : WI} {t : WT} {e : WE} {k : Nat}
theorem j_gen (isAll : Bool) (i : Nat) (hN : X.N.Nodup) (hr : Room (k + 1) X.A) (hbm : BMod X.mg X.base) (hcd : CodeAt X.K X.env.code) (hm : X.mg f = none) (hv : bootBuiltins f = some (.builtin (gname isAll))) (hi : JI X (.Name x px) iter wi) (ok : blkC X.N X.env.scope scope [(x, i)] = true)
    (ht : ∀ (s : Shared) (H : Hp) (A : Around) (C : Addr) (cl : List (Str × Addr)) (code : Value) (fp : List Addr), Room k A → JTs (gblk X s H A (genEnv scope cl C code builtinsNs X.env) fp) ifs t)
    (he : ∀ (s : Shared) (H : Hp) (A : Around) (C : Addr) (cl : List (Str × Addr)) (code : Value) (fp : List Addr), Room k A → JE (gblk X s H A (genEnv scope cl C code builtinsNs X.env) fp) elt e)
    (nc : noCell scope = true := by rfl) (h0 : scope.names.lookup (".0" : Str) = some NameKind.local := by rfl) (co : scope.isCoroutine = false := by rfl)
    (hx : scope.names.lookup x = some .local := by rfl) (hc : X.calm = true := by rfl) (hs : ∀ x, genFold iter X.env x = pure x := by intro _; rfl) (hgl : Gl X f := by rfl) (hn : f ≠ "__name__" := by decide) (hdb : (f == ("__debug__" : Str)) = false := by decide)
    (hse : starEach [.GeneratorExp elt [⟨.Name x px, iter, ifs, 0⟩] scope gpos] X.env = [(false, eval (.GeneratorExp elt [⟨.Name x px, iter, ifs, 0⟩] scope gpos) X.env)] := by rfl) :
    JE X (.Call (.Name f p) [.GeneratorExp elt [⟨.Name x px, iter, ifs, 0⟩] scope gpos] [] pos) (wGen isAll i wi t e) := by
  obtain ⟨c, P, h1, h2, h3⟩ := hcd.ex
  exact ⟨pe_imp (pe_gen (own := [(x, i)]) hc hN hr hbm h1 h2 hi.pi (blkOk_by ok) (noCell_of nc) h0 co
    (fun s H A C cl code fp rm => pg_name (i := i) hN ((blkOk_by ok).ix (x, i) List.mem_cons_self) (.inl hx) (.inr hx))
    (fun s H A C cl code fp rm => (ht s H A C cl code fp rm).pts) (fun s H A C cl code fp rm => (he s H A C cl code fp rm).pe) hs hgl hm hv hn hdb hse) (tGen_of h3)⟩
end

/-- a def whose body has such a thing: its code object is known -/
theorem def_okG {P : Program} {w : World} {K : PySem.W.Frag} {mg : Str → Option Value} {base : Heap} {x qual : Str} {st : Stmt} {f : Addr} {fd : FuncData} {N ps : List Str} {k : Nat} {sp : PSp} (F : Fun K x qual st f fd) (hcd : CodeAt K fd.code) (S : FnScope N ps (defScope st))
    (len : ∀ vs S Q, sp vs S Q → vs.length = ps.length)
    (hbody : ∃ ws : WS, (∀ (cdv : Value) (A : Around) (outer : List Env) (s : Shared) (H : Hp) (E : XK), CodeAt K cdv → Room k (A.deeper (envOfC qual (defScope st) s.heap.objs.size f cdv)) →
      JSs (cxOf CX0 P w K mg base N qual (defScope st) f cdv A outer s H E).nox (defBody st) ws) ∧ ∀ vs S Q, sp vs S Q → ws { nx := fun _ S' => Q .non S', rt := Q } (startP N vs) S) : FnOk P w K mg base CX0 (k + 1) f fd ps (liftSp K sp) := by
  obtain ⟨ws, hj, hr⟩ := hbody
  obtain ⟨oc, od, kV, doc, pm, an, cdv, ct, osl, rfl, lk, hcd'⟩ := F.ex
  have hcd2 : CodeAt K cdv := hcd
  refine fn_of lk hcd' S (fun vs H Q E ⟨ι, S0, qs, Qp, _, rv, h, _⟩ => by rw [← rv.length]; exact len qs S0 Qp h) fun A outer s H vs Q E hroom ⟨ι, S0, qs, Qp, hS, rv, h, kk⟩ => ⟨_, (hj cdv A outer s H E hcd2 hroom).pss.nox, ?_⟩
  have hF : RF K ι H (startP N qs) (L2.start N vs) := by
    unfold startP L2.start
    rw [rv.length]
    exact rv.start _
  exact ⟨ι, startP N qs, S0, _, hF, hS, hr qs S0 Qp h, ⟨fun ι' H' S' fr' σ' f1 s1 _ q => kk ι' H' S' .non .non f1 s1 .non q, fun ι' H' S' p v f1 s1 r q => kk ι' H' S' p v f1 s1 r q, fun _ _ _ _ _ _ _ _ z => z.elim, fun _ _ _ _ _ _ _ _ z => z.elim⟩⟩
end M

/-! the heap never gets smaller -/
namespace M
open PySem PySem.Spec PyProof.Rows L2
theorem runs_size {M : Model} {Γ : PySem.Ctx} {p : Pos} {t : Sem Fin} {fs : List Frame} {s s' : Shared} {e : End} (h : Runs M Γ p t fs s e s') : s.heap.objs.size ≤ s'.heap.objs.size := by
  induction h <;> (try simp only [Shared.setGen, Heap.size_update, Heap.size_push] at *) <;> omega
theorem wakes_size {M : Model} {Γ : PySem.Ctx} {p : Pos} {g : Nat} {r : Resume} {s s' : Shared} {res : GenResult} (h : Wakes M Γ p g r s res s') : s.heap.objs.size ≤ s'.heap.objs.size := by
  unfold Wakes at h
  split at h
  · exact h.elim
  · split at h
    · obtain ⟨e1, s1, hr, _, _, rfl⟩ := h
      have z := runs_size hr
      exact z
    all_goals exact Nat.le_of_eq (congrArg (·.heap.objs.size) h.2.symm)
  · obtain ⟨e1, s1, hr, _, _, rfl⟩ := h
    have z := runs_size hr
    exact z
  all_goals exact Nat.le_of_eq (congrArg (·.heap.objs.size) h.2.symm)
theorem wp_size {α : Type} (M : Model) (Γ : PySem.Ctx) (n : Nat) (t : Sem α) : ∀ (Q : α → Pos → Shared → Prop) (E : Value → Pos → Shared → Prop) (p : Pos) (s : Shared), n ≤ s.heap.objs.size → Sem.wp M Γ t Q E p s →
    Sem.wp M Γ t (fun a p' s' => n ≤ s'.heap.objs.size ∧ Q a p' s') (fun e p' s' => n ≤ s'.heap.objs.size ∧ E e p' s') p s := by
  induction t with
  | pure a => exact fun Q E p s g z => ⟨g, z⟩
  | raise e => exact fun Q E p s g z => ⟨g, z⟩
  | unsupported _ => exact fun Q E p s _ z => z
  | finish _ => exact fun Q E p s _ z => z
  | rule _ k ih => exact fun Q E p s g z => ih () Q E p s g z
  | «at» p' k ih => exact fun Q E p s g z => ih () Q E p' s g z
  | load a _ k ih => exact fun Q E p s g ⟨o, ho, z⟩ => ⟨o, ho, ih o Q E p s g z⟩
  | update a _ f k ih => exact fun Q E p s g z => ⟨z.1, ih () Q E p _ (by show n ≤ (s.heap.update a f).objs.size; rw [Heap.size_update]; exact g) z.2⟩
  | loadIfAlive a k ih => exact fun Q E p s g z => ih _ Q E p s g z
  | point _ k ih => exact fun Q E p s g z => ih () Q E p s g z
  | register _ _ => exact fun Q E p s _ z => z
  | alloc o k ih => exact fun Q E p s g z => ih _ Q E p _ (by show n ≤ (s.heap.push o).objs.size; rw [Heap.size_push]; exact Nat.le_succ_of_le g) z
  | fresh k ih => exact fun Q E p s g z => ih _ Q E p _ g z
  | ask k ih => exact fun Q E p s g z => ih _ Q E p s g z
  | choose src m k ih => exact fun Q E p s g z => ⟨z.1, ih _ Q E p _ g z.2⟩
  | os q _ k ih => exact fun Q E p s g z => ih _ Q E p _ g z
  | call c hd _ _ k ih => exact fun Q E p s g ⟨r, s', hr, z⟩ => ⟨r, s', hr, ih r Q E p s' (Nat.le_trans g (runs_size hr)) z⟩
  | handled own k ih => exact fun Q E p s g z => ih _ Q E p s g z
  | genState g k ih => exact fun Q E p s g ⟨st, hs, z⟩ => ⟨st, hs, ih _ Q E p s g z⟩
  | newGen c k ih => exact fun Q E p s g z => ih _ Q E p _ g z
  | resume g r _ k ih => exact fun Q E p s g ⟨res, s', hw, z⟩ => ⟨res, s', hw, ih res Q E p s' (Nat.le_trans g (wakes_size hw)) z⟩
  | yield _ _ _ _ => exact fun Q E p s _ z => z
  | stack k ih => exact fun Q E p s g z => ih _ Q E p s g z
  | fork _ _ => exact fun Q E p s _ z => z
  | thread k ih => exact fun Q E p s g z => ih _ Q E p s g z
  | await _ _ _ _ _ => exact fun Q E p s _ z => z
theorem with_size {α : Type} {M : Model} {A : Around} {s : Shared} {t : Sem α} {Q : α → Shared → Prop} {E : Value → Shared → Prop} {n : Nat} (hn : n ≤ s.heap.objs.size) (h : wpAny M A t (fun a s' => n ≤ s'.heap.objs.size → Q a s') E s) :
    wpAny M A t Q E s :=
  wpAny_mono (Q := fun a s' => n ≤ s'.heap.objs.size ∧ (n ≤ s'.heap.objs.size → Q a s')) (E := fun e s' => n ≤ s'.heap.objs.size ∧ E e s') (fun Γ p hΓ => wp_size M Γ n t _ _ p s hn (h Γ p hΓ)) (fun a s' z => z.2 z.1) fun e s' z => z.2
end M

namespace M
open PySem PySem.Spec PyProof.Rows L2
variable [Tabs]

section
variable {prog : Program} {w : World} {A : Around} {E : Value → Shared → Prop} {s : Shared}
end

end M

/-! The model's sort, at any length: by a comparison that answers as a total preorder. -/
namespace TS
open PySem PyProof.Rows

def gallop' : Bool → Keyed → Array Keyed → Nat → Nat → Nat → StateT SortSt Sem (Option Nat) := sortPriv% PySem.Builtin.gallop
/-- a private function of the model, opened where it stands -/
local macro_rules | `(tactic| walk_at "open gallop") => do
  let n := Lean.mkIdent (.str (.str (.str (.num (.str (.str (.str (.str (.str .anonymous "_private") "PySem") "Builtin") "List") "W1All") 0) "PySem") "Builtin") "gallop")
  `(tactic| delta $n:ident)
variable {M : Model} {A : Around} {E : Value → Shared → Prop} {s : Shared}
/-- the comparison, as it answers on what is sorted -/
structure Cmp (M : Model) (A : Around) (E : Value → Shared → Prop) (s : Shared) (kd : SortKind) (D : Keyed → Prop) (less : Keyed → Keyed → Bool) : Prop where
  ans : ∀ x y st (Q : Option Bool → SortSt → Prop), D x → D y → kindOf st = kd → Q (some (less x y)) st → wpS M A E s (lt' x y) Q st
  irr : ∀ x, D x → less x x = false
  asy : ∀ x y, D x → D y → less x y = true → less y x = false
  tr : ∀ x y z, D x → D y → D z → less y x = false → less z y = false → less z x = false
section
variable {kd : SortKind} {D : Keyed → Prop} {less : Keyed → Keyed → Bool}
theorem wp_elem {arr : Array Keyed} {i : Nat} {x : Keyed} {Q : Keyed → SortSt → Prop} {st : SortSt} (h : arr[i]? = some x) (q : Q x st) : wpS M A E s (elem' arr i) Q st := by
  rw [elem'_eq, h]
  exact wpS_pure q
/-- where an item stands to the key -/
def byd (less : Keyed → Keyed → Bool) (left : Bool) (key : Keyed) (arr : Array Keyed) (base i : Nat) : Bool := match arr[base + i]? with
  | some x => if left then less x key else !less key x
  | none => false
theorem wp_beyond (C : Cmp M A E s kd D less) {left : Bool} {key : Keyed} {arr : Array Keyed} {base i : Nat} {x : Keyed} {Q : Option Bool → SortSt → Prop} {st : SortSt} (hk : kindOf st = kd) (hd : D key) (hx : arr[base + i]? = some x) (dx : D x) (q : Q (some (byd less left key arr base i)) st) :
    wpS M A E s (do
        let x ← elem' arr (base + i)
        if left = true then lt' x key
          else do
            let r ← lt' key x
            pure (Option.map (fun x => !x) r)) Q st := by
  refine wpS_bind (wp_elem hx ?_)
  unfold byd at q
  rw [hx] at q
  cases left with
  | true =>
    simp only [if_true] at q ⊢
    exact C.ans x key st Q dx hd hk q
  | false =>
    simp only [Bool.false_eq_true, if_false] at q ⊢
    exact wpS_bind (C.ans key x st _ hd dx hk (wpS_pure q))
theorem wp_gallop (C : Cmp M A E s kd D less) {left : Bool} {key : Keyed} {arr : Array Keyed} {base n hint : Nat} {Q : Option Nat → SortSt → Prop} {st : SortSt} (hk : kindOf st = kd) (hd : D key) (hx : ∀ i, i < n → ∃ x, arr[base + i]? = some x ∧ D x)
    (mono : ∀ i j, i ≤ j → j < n → byd less left key arr base j = true → byd less left key arr base i = true) (hh : hint < n)
    (q : ∀ k, k ≤ n → (∀ i, i < k → byd less left key arr base i = true) → (∀ i, k ≤ i → i < n → byd less left key arr base i = false) → Q (some k) st) : wpS M A E s (gallop' left key arr base n hint) Q st := by
  have bey : ∀ (i : Nat) (Q : Option Bool → SortSt → Prop), i < n → Q (some (byd less left key arr base i)) st → wpS M A E s (do
        let x ← elem' arr (base + i)
        if left = true then lt' x key
          else do
            let r ← lt' key x
            pure (Option.map (fun x => !x) r)) Q st := fun i Q hi q => by
    obtain ⟨x, h1, h2⟩ := hx i hi
    exact wp_beyond C hk hd h1 h2 q
  have fl : ∀ i j, i ≤ j → j < n → byd less left key arr base i = false → byd less left key arr base j = false := fun i j h1 h2 h3 => by
    cases h : byd less left key arr base j with
    | false => rfl
    | true => rw [mono i j h1 h2 h] at h3; cases h3
  unfold gallop'
  walk_at "open gallop"
  refine wpS_bind (bey hint _ hh ?_)
  -- the binary search
  have bin : ∀ (f : Nat → Option (Option Nat) × Nat × Nat → StateT SortSt Sem (ForInStep (Option (Option Nat) × Nat × Nat))),
      (∀ (x lo hi : Nat) (Q : ForInStep (Option (Option Nat) × Nat × Nat) → SortSt → Prop), (lo ≥ hi → Q (.done (none, lo, hi)) st) → (lo < hi → hi ≤ n → byd less left key arr base (lo + (hi - lo) / 2) = true → Q (.yield (none, lo + (hi - lo) / 2 + 1, hi)) st) →
        (lo < hi → hi ≤ n → byd less left key arr base (lo + (hi - lo) / 2) = false → Q (.yield (none, lo, lo + (hi - lo) / 2)) st) → hi ≤ n → wpS M A E s (f x (none, lo, hi)) Q st) →
      ∀ lo hi, lo ≤ hi → hi ≤ n → (∀ i, i < lo → byd less left key arr base i = true) → (∀ i, hi ≤ i → i < n → byd less left key arr base i = false) →
      wpS M A E s (forIn [:n] ((none : Option (Option Nat)), lo, hi) f) (fun c st' => st' = st ∧ c.1 = none ∧ Q (some c.2.2) st) st := by
    intro f hf lo hi h1 h2 h3 h4
    refine wpS_forRange (fun j (c : Option (Option Nat) × Nat × Nat) st' => st' = st ∧ c.1 = none ∧ c.2.1 ≤ c.2.2 ∧ c.2.2 ≤ n ∧ c.2.2 - c.2.1 + j ≤ n ∧ (∀ i, i < c.2.1 → byd less left key arr base i = true) ∧ (∀ i, c.2.2 ≤ i → i < n → byd less left key arr base i = false)) ?_ ?_ ⟨rfl, rfl, h1, h2, by show hi - lo + 0 ≤ n; omega, h3, h4⟩
    · rintro j ⟨r, lo, hi⟩ st' _ hj ⟨e1, e2, g1, g2, g3, g4, g5⟩
      subst e1
      obtain rfl : r = none := e2
      have g1 : lo ≤ hi := g1
      have g2 : hi ≤ n := g2
      have g3 : hi - lo + j ≤ n := g3
      refine hf j lo hi _ (fun hlh => ?_) (fun hlh _ hb => ?_) (fun hlh _ hb => ?_) g2
      · have : lo = hi := by omega
        subst this
        exact ⟨rfl, rfl, q lo g2 g4 g5⟩
      · refine ⟨rfl, rfl, by show lo + (hi - lo) / 2 + 1 ≤ hi; omega, g2, by show hi - (lo + (hi - lo) / 2 + 1) + (j + 1) ≤ n; omega, fun i hi' => mono i (lo + (hi - lo) / 2) ?_ (by omega) hb, g5⟩
        have hi' : i < lo + (hi - lo) / 2 + 1 := hi'
        omega
      · refine ⟨rfl, rfl, by show lo ≤ lo + (hi - lo) / 2; omega, by show lo + (hi - lo) / 2 ≤ n; omega, by show lo + (hi - lo) / 2 - lo + (j + 1) ≤ n; omega, g4, fun i hi' hn => fl (lo + (hi - lo) / 2) i hi' hn hb⟩
    · rintro ⟨r, lo, hi⟩ st' ⟨e1, e2, g1, g2, g3, g4, g5⟩
      have g1 : lo ≤ hi := g1
      have g3 : hi - lo + max 0 n ≤ n := g3
      have : lo = hi := by omega
      subst this
      exact ⟨e1, e2, q lo g2 g4 g5⟩
  cases hb : byd less left key arr base hint with
  | true =>
    simp only [if_true]
    refine wpS_bind (wpS_mono (wpS_forRange (fun j (c : Option (Option Nat) × Nat × Nat) st' => st' = st ∧ c.1 = none ∧ c.2.1 < c.2.2 ∧ j < c.2.2 ∧ hint + c.2.1 < n ∧ byd less left key arr base (hint + c.2.1) = true) (Q := fun c st' => st' = st ∧ c.1 = none ∧ c.2.1 < c.2.2 ∧ hint + c.2.1 < n ∧ byd less left key arr base (hint + c.2.1) = true ∧ (n - hint ≤ c.2.2 ∨ (hint + c.2.2 < n ∧ byd less left key arr base (hint + c.2.2) = false))) ?_ ?_ ⟨rfl, rfl, by decide, by decide, hh, hb⟩) ?_)
    · rintro j ⟨_, lastofs, ofs⟩ st' _ hj ⟨rfl, rfl, g1, g2, g3, g4⟩
      dsimp only at g1 g2 g3 g4 ⊢
      by_cases ho : ofs ≥ n - hint
      · rw [if_pos ho]
        exact wpS_pure ⟨rfl, rfl, g1, g3, g4, .inl ho⟩
      · rw [if_neg ho]
        refine wpS_bind (bey _ _ (by omega) ?_)
        cases hb2 : byd less left key arr base (hint + ofs) with
        | true =>
          simp only [Bool.not_true, Bool.false_eq_true, if_false]
          exact wpS_pure ⟨rfl, rfl, by dsimp only; omega, by dsimp only; omega, by dsimp only; omega, hb2⟩
        | false =>
          simp only [Bool.not_false, if_true]
          exact wpS_pure ⟨rfl, rfl, g1, g3, g4, .inr ⟨by dsimp only; omega, hb2⟩⟩
    · rintro ⟨_, lastofs, ofs⟩ st' ⟨rfl, rfl, g1, g2, g3, g4⟩
      exact ⟨rfl, rfl, g1, g3, g4, .inl (by dsimp only at g2 ⊢; omega)⟩
    · rintro ⟨_, lastofs, ofs⟩ st' ⟨rfl, rfl, g1, g3, g4, g5⟩
      dsimp only at g1 g3 g4 g5 ⊢
      have H2 : ∀ i, hint + min ofs (n - hint) ≤ i → i < n → byd less left key arr base i = false := fun i hi hn => by
        rcases g5 with g5 | ⟨g5, g6⟩
        · omega
        · exact fl _ i (by omega) hn g6
      refine wpS_bind (wpS_mono (bin _ ?_ (hint + lastofs + 1) (hint + min ofs (n - hint)) (by omega) (by omega) (fun i hi => mono i (hint + lastofs) (by omega) g3 g4) H2) ?_)
      · intro x lo hi Q q1 q2 q3 hn
        dsimp only
        by_cases hlh : lo ≥ hi
        · rw [if_pos hlh]
          exact wpS_pure (q1 hlh)
        · rw [if_neg hlh]
          refine wpS_bind (bey _ _ (by omega) ?_)
          cases hb : byd less left key arr base (lo + (hi - lo) / 2) with
          | true =>
            simp only [if_true]
            exact wpS_pure (q2 (by omega) hn hb)
          | false =>
            simp only [Bool.false_eq_true, if_false]
            exact wpS_pure (q3 (by omega) hn hb)
      · rintro ⟨r, lo, hi⟩ st' ⟨e1, e2, q⟩
        subst e1
        obtain rfl : r = none := e2
        exact wpS_pure q
  | false =>
    simp only [Bool.false_eq_true, if_false]
    refine wpS_bind (wpS_mono (wpS_forRange (fun j (c : Option (Option Nat) × Nat × Nat) st' => st' = st ∧ c.1 = none ∧ c.2.1 < c.2.2 ∧ j < c.2.2 ∧ c.2.1 ≤ hint ∧ byd less left key arr base (hint - c.2.1) = false) (Q := fun c st' => st' = st ∧ c.1 = none ∧ c.2.1 < c.2.2 ∧ c.2.1 ≤ hint ∧ byd less left key arr base (hint - c.2.1) = false ∧ (hint + 1 ≤ c.2.2 ∨ (c.2.2 ≤ hint ∧ byd less left key arr base (hint - c.2.2) = true))) ?_ ?_ ⟨rfl, rfl, by decide, by decide, Nat.zero_le _, hb⟩) ?_)
    · rintro j ⟨_, lastofs, ofs⟩ st' _ hj ⟨rfl, rfl, g1, g2, g3, g4⟩
      dsimp only at g1 g2 g3 g4 ⊢
      by_cases ho : ofs ≥ hint + 1
      · rw [if_pos ho]
        exact wpS_pure ⟨rfl, rfl, g1, g3, g4, .inl ho⟩
      · rw [if_neg ho]
        refine wpS_bind (bey _ _ (by omega) ?_)
        cases hb2 : byd less left key arr base (hint - ofs) with
        | true =>
          simp only [if_true]
          exact wpS_pure ⟨rfl, rfl, g1, g3, g4, .inr ⟨by dsimp only; omega, hb2⟩⟩
        | false =>
          simp only [Bool.false_eq_true, if_false]
          exact wpS_pure ⟨rfl, rfl, by dsimp only; omega, by dsimp only; omega, by dsimp only; omega, hb2⟩
    · rintro ⟨_, lastofs, ofs⟩ st' ⟨rfl, rfl, g1, g2, g3, g4⟩
      exact ⟨rfl, rfl, g1, g3, g4, .inl (by dsimp only at g2 ⊢; omega)⟩
    · rintro ⟨_, lastofs, ofs⟩ st' ⟨rfl, rfl, g1, g3, g4, g5⟩
      dsimp only at g1 g3 g4 g5 ⊢
      have H1 : ∀ i, i < hint + 1 - min ofs (hint + 1) → byd less left key arr base i = true := fun i hi => by
        rcases g5 with g5 | ⟨g5, g6⟩
        · omega
        · exact mono i (hint - ofs) (by omega) (by omega) g6
      refine wpS_bind (wpS_mono (bin _ ?_ (hint + 1 - min ofs (hint + 1)) (hint - lastofs) (by omega) (by omega) H1 (fun i hi hn => fl (hint - lastofs) i (by omega) hn g4)) ?_)
      · intro x lo hi Q q1 q2 q3 hn
        dsimp only
        by_cases hlh : lo ≥ hi
        · rw [if_pos hlh]
          exact wpS_pure (q1 hlh)
        · rw [if_neg hlh]
          refine wpS_bind (bey _ _ (by omega) ?_)
          cases hb : byd less left key arr base (lo + (hi - lo) / 2) with
          | true =>
            simp only [if_true]
            exact wpS_pure (q2 (by omega) hn hb)
          | false =>
            simp only [Bool.false_eq_true, if_false]
            exact wpS_pure (q3 (by omega) hn hb)
      · rintro ⟨r, lo, hi⟩ st' ⟨e1, e2, q⟩
        subst e1
        obtain rfl : r = none := e2
        exact wpS_pure q
end
end TS

namespace TS
open PySem PyProof.Rows
abbrev setGallop (st : SortSt) (g : Nat) : SortSt := SortSt.mk' (kindOf st) (arrOf st) (pendingOf st) g (failedOf st)
def setMinGallop' : Nat → StateT SortSt Sem Unit := sortPriv% PySem.Builtin.setMinGallop
theorem setMinGallop'_eq (g : Nat) : setMinGallop' g = modify fun s => setGallop s g := rfl
def mergeLo' : Array Keyed → Array Keyed → StateT SortSt Sem (Array Keyed) := sortPriv% PySem.Builtin.mergeLo
abbrev C1 := Option (Array Keyed) × Array Keyed × Nat × Nat × Nat × Nat
abbrev C2 := Option (Array Keyed) × Array Keyed × Nat × Nat × Nat × Nat × Nat
abbrev C3 := Option (Array Keyed) × Array Keyed × Nat × Nat × Nat
abbrev SM := StateT SortSt Sem
section
variable (a b : Array Keyed)
/-- what comes out when nothing is left to compare: the first row's rest ahead, or the second's -/
abbrev dn (out : Array Keyed) (ia ib : Nat) : Array Keyed := out ++ a.extract ia a.size ++ b.extract ib b.size
abbrev la (out : Array Keyed) (ia ib : Nat) : Array Keyed := out ++ b.extract ib b.size ++ a.extract ia a.size
end
end TS

namespace TS
open PySem PyProof.Rows

/-! ### two sorted rows, partly taken -/
section
variable {α : Type} {le : α → α → Prop}
structure MSL (le : α → α → Prop) (xs ys o : List α) (i j : Nat) : Prop where
  perm : (o ++ (xs.drop i ++ ys.drop j)).Perm (xs ++ ys)
  srt : o.Pairwise le
  bel : ∀ x ∈ o, ∀ r ∈ xs.drop i ++ ys.drop j, le x r
structure Mgd (le : α → α → Prop) (xs ys o : List α) : Prop where
  perm : o.Perm (xs ++ ys)
  srt : o.Pairwise le
variable {xs ys o : List α} {i j : Nat}
theorem MSL.takeA (m : MSL le xs ys o i j) (sx : xs.Pairwise le) (k : Nat) (h : ∀ x ∈ (xs.drop i).take k, ∀ r ∈ ys.drop j, le x r) : MSL le xs ys (o ++ (xs.drop i).take k) (i + k) j := by
  have e : (xs.drop i).drop k = xs.drop (i + k) := List.drop_drop ..
  have d : (xs.drop i).take k ++ xs.drop (i + k) = xs.drop i := by rw [← e, List.take_append_drop]
  have sd : (xs.drop i).Pairwise le := sx.sublist (List.drop_sublist _ _)
  rw [← d, List.pairwise_append] at sd
  refine ⟨?_, ?_, ?_⟩
  · have := m.perm
    rw [← d] at this
    rw [List.append_assoc, ← List.append_assoc ((xs.drop i).take k)]
    exact this
  · rw [List.pairwise_append]
    exact ⟨m.srt, sd.1, fun x hx y hy => m.bel x hx y (List.mem_append_left _ (List.mem_of_mem_take hy))⟩
  · intro x hx r hr
    rcases List.mem_append.mp hx with hx | hx
    · refine m.bel x hx r ?_
      rcases List.mem_append.mp hr with hr | hr
      · exact List.mem_append_left _ (by rw [← d]; exact List.mem_append_right _ hr)
      · exact List.mem_append_right _ hr
    · rcases List.mem_append.mp hr with hr | hr
      · exact sd.2.2 x hx r hr
      · exact h x hx r hr
theorem MSL.takeB (m : MSL le xs ys o i j) (sy : ys.Pairwise le) (k : Nat) (h : ∀ x ∈ (ys.drop j).take k, ∀ r ∈ xs.drop i, le x r) : MSL le xs ys (o ++ (ys.drop j).take k) i (j + k) := by
  have e : (ys.drop j).drop k = ys.drop (j + k) := List.drop_drop ..
  have d : (ys.drop j).take k ++ ys.drop (j + k) = ys.drop j := by rw [← e, List.take_append_drop]
  have sd : (ys.drop j).Pairwise le := sy.sublist (List.drop_sublist _ _)
  rw [← d, List.pairwise_append] at sd
  refine ⟨?_, ?_, ?_⟩
  · have := m.perm
    rw [← d] at this
    refine List.Perm.trans ?_ this
    rw [List.append_assoc]
    refine .append_left o ?_
    simp only [← List.append_assoc]
    exact .append_right _ List.perm_append_comm
  · rw [List.pairwise_append]
    exact ⟨m.srt, sd.1, fun x hx y hy => m.bel x hx y (List.mem_append_right _ (List.mem_of_mem_take hy))⟩
  · intro x hx r hr
    rcases List.mem_append.mp hx with hx | hx
    · refine m.bel x hx r ?_
      rcases List.mem_append.mp hr with hr | hr
      · exact List.mem_append_left _ hr
      · exact List.mem_append_right _ (by rw [← d]; exact List.mem_append_right _ hr)
    · rcases List.mem_append.mp hr with hr | hr
      · exact h x hx r hr
      · exact sd.2.2 x hx r hr
theorem MSL.doneB (m : MSL le xs ys o i j) (sx : xs.Pairwise le) (hj : ys.length ≤ j) : Mgd le xs ys (o ++ xs.drop i ++ ys.drop j) := by
  have e : ys.drop j = [] := List.drop_eq_nil_of_le hj
  refine ⟨by rw [List.append_assoc]; exact m.perm, ?_⟩
  rw [e, List.append_nil, List.pairwise_append]
  exact ⟨m.srt, sx.sublist (List.drop_sublist _ _), fun x hx r hr => m.bel x hx r (List.mem_append_left _ hr)⟩
theorem MSL.doneA (m : MSL le xs ys o i j) (sy : ys.Pairwise le) (hi : xs.length ≤ i) : Mgd le xs ys (o ++ xs.drop i ++ ys.drop j) := by
  have e : xs.drop i = [] := List.drop_eq_nil_of_le hi
  refine ⟨by rw [List.append_assoc]; exact m.perm, ?_⟩
  rw [e, List.append_nil, List.pairwise_append]
  exact ⟨m.srt, sy.sublist (List.drop_sublist _ _), fun x hx r hr => m.bel x hx r (List.mem_append_right _ hr)⟩
/-- what is left of the first row is above the second's -/
theorem MSL.last (m : MSL le xs ys o i j) (sx : xs.Pairwise le) (sy : ys.Pairwise le) (h : ∀ x ∈ ys.drop j, ∀ r ∈ xs.drop i, le x r) : Mgd le xs ys (o ++ ys.drop j ++ xs.drop i) := by
  refine ⟨?_, ?_⟩
  · rw [List.append_assoc]
    exact (List.Perm.append_left _ List.perm_append_comm).trans m.perm
  · rw [List.append_assoc, List.pairwise_append]
    refine ⟨m.srt, ?_, fun x hx r hr => m.bel x hx r ?_⟩
    · rw [List.pairwise_append]
      exact ⟨sy.sublist (List.drop_sublist _ _), sx.sublist (List.drop_sublist _ _), h⟩
    · rcases List.mem_append.mp hr with hr | hr
      · exact List.mem_append_right _ hr
      · exact List.mem_append_left _ hr
theorem take_one {xs : List α} {i : Nat} {x : α} (h : xs[i]? = some x) : (xs.drop i).take 1 = [x] := by
  obtain ⟨hl, e⟩ := List.getElem?_eq_some_iff.mp h
  rw [List.drop_eq_getElem_cons hl, e]
  rfl
theorem mem_take_drop {xs : List α} {i k : Nat} {x : α} (h : x ∈ (xs.drop i).take k) : ∃ n, n < k ∧ xs[i + n]? = some x := by
  obtain ⟨n, hn, e⟩ := List.getElem_of_mem h
  have hl := hn
  rw [List.length_take] at hl
  refine ⟨n, by omega, ?_⟩
  rw [List.getElem_take, List.getElem_drop] at e
  rw [List.getElem?_eq_some_iff]
  exact ⟨by rw [List.length_drop] at hl; omega, e⟩
theorem mem_drop {xs : List α} {i : Nat} {x : α} (h : x ∈ xs.drop i) : ∃ n, xs[i + n]? = some x ∧ i + n < xs.length := by
  obtain ⟨n, hn, e⟩ := List.getElem_of_mem h
  rw [List.length_drop] at hn
  rw [List.getElem_drop] at e
  exact ⟨n, List.getElem?_eq_some_iff.mpr ⟨by omega, e⟩, by omega⟩
theorem pw_get {xs : List α} (h : xs.Pairwise le) {i j : Nat} {x y : α} (hij : i < j) (hx : xs[i]? = some x) (hy : xs[j]? = some y) : le x y := by
  obtain ⟨h1, e1⟩ := List.getElem?_eq_some_iff.mp hx
  obtain ⟨h2, e2⟩ := List.getElem?_eq_some_iff.mp hy
  have := List.pairwise_iff_getElem.mp h i j h1 h2 hij
  rw [e1, e2] at this
  exact this
end
theorem extract_list (a : Array Keyed) (i j : Nat) : (a.extract i j).toList = (a.toList.drop i).take (j - i) := by
  rw [Array.toList_extract]
theorem extract_all (a : Array Keyed) (i : Nat) : (a.extract i a.size).toList = a.toList.drop i := by
  rw [extract_list]
  exact List.take_of_length_le (by rw [List.length_drop, Array.length_toList]; omega)
theorem dn_list (a b out : Array Keyed) (ia ib : Nat) : (dn a b out ia ib).toList = out.toList ++ a.toList.drop ia ++ b.toList.drop ib := by
  unfold dn
  rw [Array.toList_append, Array.toList_append, extract_all, extract_all]
theorem la_list (a b out : Array Keyed) (ia ib : Nat) : (la a b out ia ib).toList = out.toList ++ b.toList.drop ib ++ a.toList.drop ia := by
  unfold la
  rw [Array.toList_append, Array.toList_append, extract_all, extract_all]
end TS

namespace TS
open PySem PyProof.Rows
variable {M : Model} {A : Around} {E : Value → Shared → Prop} {s : Shared} {kd : SortKind} {D : Keyed → Prop} {less : Keyed → Keyed → Bool}
abbrev leq (less : Keyed → Keyed → Bool) (x y : Keyed) : Prop := less y x = false
/-- two rows that may be merged from the front -/
structure Two (D : Keyed → Prop) (less : Keyed → Keyed → Bool) (a b : Array Keyed) : Prop where
  sa : a.toList.Pairwise (leq less)
  sb : b.toList.Pairwise (leq less)
  da : ∀ x ∈ a.toList, D x
  db : ∀ x ∈ b.toList, D x
  na : 0 < a.size
  nb : 0 < b.size
  lst : ∀ x ∈ b.toList, ∀ z, a.toList[a.size - 1]? = some z → leq less x z
  fst : ∀ x ∈ a.toList, ∀ z, b.toList[0]? = some z → leq less z x
structure MI (less : Keyed → Keyed → Bool) (a b out : Array Keyed) (ia ib : Nat) : Prop where
  m : MSL (leq less) a.toList b.toList out.toList ia ib
  la : ia + 1 < a.size
  lb : ib < b.size
  sz : out.size = ia + ib
abbrev RR (less : Keyed → Keyed → Bool) (a b r : Array Keyed) : Prop := Mgd (leq less) a.toList b.toList r.toList
theorem arr_get {a : Array Keyed} {i : Nat} (h : i < a.size) : ∃ x, a[i]? = some x ∧ a.toList[i]? = some x := ⟨a[i], Array.getElem?_eq_getElem h, by rw [Array.getElem?_toList, Array.getElem?_eq_getElem h]⟩
section
variable {a b : Array Keyed}
theorem mem_of_get {a : Array Keyed} {i : Nat} {x : Keyed} (h : a.toList[i]? = some x) : x ∈ a.toList := List.mem_of_getElem? h
/-- all behind a place are at least what stands there -/
theorem le_drop (C : Cmp M A E s kd D less) {l : List Keyed} (sl : l.Pairwise (leq less)) (dl : ∀ x ∈ l, D x) {i : Nat} {x r : Keyed} (h : l[i]? = some x) (hr : r ∈ l.drop i) : leq less x r := by
  obtain ⟨n, e, _⟩ := mem_drop hr
  by_cases hn : n = 0
  · subst hn
    rw [Nat.add_zero, h] at e
    cases e
    exact C.irr x (dl x (List.mem_of_getElem? h))
  · exact pw_get sl (by omega) h e
theorem leq_trans (C : Cmp M A E s kd D less) {x y z : Keyed} (dx : D x) (dy : D y) (dz : D z) (h1 : leq less x y) (h2 : leq less y z) : leq less x z := C.tr x y z dx dy dz h1 h2
theorem MI.pushB (T : Two D less a b) {out : Array Keyed} {ia ib : Nat} {y : Keyed} (m : MSL (leq less) a.toList b.toList out.toList ia ib) (hy : b.toList[ib]? = some y) (h : ∀ r ∈ a.toList.drop ia, leq less y r) : MSL (leq less) a.toList b.toList (out.push y).toList ia (ib + 1) := by
  have := m.takeB T.sb 1 (by rw [take_one hy]; intro x hx r hr; rw [List.mem_singleton.mp hx]; exact h r hr)
  rw [take_one hy] at this
  rw [Array.toList_push]
  exact this
theorem MI.pushA (T : Two D less a b) {out : Array Keyed} {ia ib : Nat} {x : Keyed} (m : MSL (leq less) a.toList b.toList out.toList ia ib) (hx : a.toList[ia]? = some x) (h : ∀ r ∈ b.toList.drop ib, leq less x r) : MSL (leq less) a.toList b.toList (out.push x).toList (ia + 1) ib := by
  have := m.takeA T.sa 1 (by rw [take_one hx]; intro z hz r hr; rw [List.mem_singleton.mp hz]; exact h r hr)
  rw [take_one hx] at this
  rw [Array.toList_push]
  exact this
theorem end_b (T : Two D less a b) {out : Array Keyed} {ia ib : Nat} (m : MSL (leq less) a.toList b.toList out.toList ia ib) (h : (ib == b.size) = true) : RR less a b (dn a b out ia ib) := by
  unfold RR
  rw [dn_list]
  exact m.doneB T.sa (by rw [Array.length_toList, beq_iff_eq.mp h]; exact Nat.le_refl _)
theorem end_a (T : Two D less a b) {out : Array Keyed} {ia ib : Nat} (m : MSL (leq less) a.toList b.toList out.toList ia ib) (h : (ia == a.size) = true) : RR less a b (dn a b out ia ib) := by
  unfold RR
  rw [dn_list]
  exact m.doneA T.sb (by rw [Array.length_toList, beq_iff_eq.mp h]; exact Nat.le_refl _)
theorem end_l (T : Two D less a b) {out : Array Keyed} {ia ib : Nat} (m : MSL (leq less) a.toList b.toList out.toList ia ib) (h : (ia + 1 == a.size) = true) : RR less a b (la a b out ia ib) := by
  unfold RR
  rw [la_list]
  refine m.last T.sa T.sb fun x hx r hr => ?_
  obtain ⟨n, e, hl⟩ := mem_drop hr
  rw [Array.length_toList] at hl
  have h1 := beq_iff_eq.mp h
  have : ia + n = a.size - 1 := by omega
  rw [this] at e
  exact T.lst x (List.mem_of_mem_drop hx) r e
/-- a leap, either kind -/
theorem byd_at {left : Bool} {key x : Keyed} {arr : Array Keyed} {base i : Nat} (h : arr.toList[base + i]? = some x) : byd less left key arr base i = if left then less x key else !less key x := by
  unfold byd
  rw [show arr[base + i]? = some x by rw [← Array.getElem?_toList]; exact h]
theorem wp_leap (C : Cmp M A E s kd D less) {left : Bool} {key : Keyed} {arr : Array Keyed} {base n hint : Nat} {Q : Option Nat → SortSt → Prop} {st : SortSt} (hk : kindOf st = kd) (hd : D key) (sl : arr.toList.Pairwise (leq less)) (dl : ∀ x ∈ arr.toList, D x) (hb : base + n ≤ arr.size) (hh : hint < n)
    (q : ∀ k, k ≤ n → (∀ i x, i < k → arr.toList[base + i]? = some x → (if left then less x key else !less key x) = true) → (∀ i x, k ≤ i → i < n → arr.toList[base + i]? = some x → (if left then less x key else !less key x) = false) → Q (some k) st) : wpS M A E s (gallop' left key arr base n hint) Q st := by
  refine wp_gallop C hk hd (fun i hi => ?_) (fun i j hij hj hbj => ?_) hh fun k k1 k2 k3 => q k k1 (fun i x hi hx => ?_) (fun i x h1 h2 hx => ?_)
  · obtain ⟨x, hx, lx⟩ := arr_get (show base + i < arr.size by omega)
    exact ⟨x, hx, dl x (mem_of_get lx)⟩
  · obtain ⟨x, hx, lx⟩ := arr_get (show base + i < arr.size by omega)
    obtain ⟨y, hy, ly⟩ := arr_get (show base + j < arr.size by omega)
    rw [byd_at ly] at hbj
    rw [byd_at lx]
    have dx := dl x (mem_of_get lx)
    have dy := dl y (mem_of_get ly)
    have hxy : leq less x y := by
      rcases Nat.lt_or_ge i j with h | h
      · exact pw_get sl (by omega) lx ly
      · have : i = j := by omega
        subst this
        rw [lx] at ly; cases ly
        exact C.irr x dx
    cases left with
    | true =>
      simp only [if_true] at hbj ⊢
      cases hz : less x key with
      | true => rfl
      | false => rw [C.tr key x y hd dx dy hz hxy] at hbj; cases hbj
    | false =>
      simp only [Bool.false_eq_true, if_false, Bool.not_eq_true'] at hbj ⊢
      exact C.tr x y key dx dy hd hxy hbj
  · rw [← byd_at hx]; exact k2 i hi
  · rw [← byd_at hx]; exact k3 i h1 h2
theorem ext_list (out b : Array Keyed) (i k : Nat) : (out ++ b.extract i (i + k)).toList = out.toList ++ (b.toList.drop i).take k := by
  rw [Array.toList_append, extract_list]
  congr 2
  omega
theorem ext_size (out b : Array Keyed) (i k : Nat) (h : i + k ≤ b.size) : (out ++ b.extract i (i + k)).size = out.size + k := by
  rw [Array.size_append, Array.size_extract]
  omega
theorem wp_setMin {g : Nat} {Q : Unit → SortSt → Prop} {st : SortSt} (q : Q () (setGallop st g)) : wpS M A E s (setMinGallop' g) Q st := by
  rw [setMinGallop'_eq]
  exact wpS_modify q
end
end TS

namespace TS
open PySem PyProof.Rows
variable {M : Model} {A : Around} {E : Value → Shared → Prop} {s : Shared} {kd : SortKind} {D : Keyed → Prop} {less : Keyed → Keyed → Bool} {a b : Array Keyed}
/-- a private function of the model, opened where it stands -/
local macro_rules | `(tactic| walk_at "open mergeLo") => do
  let n := Lean.mkIdent (.str (.str (.str (.num (.str (.str (.str (.str (.str .anonymous "_private") "PySem") "Builtin") "List") "W1All") 0) "PySem") "Builtin") "mergeLo")
  `(tactic| delta $n:ident)
def SG (st st' : SortSt) : Prop := ∃ g, st' = setGallop st g
theorem SG.refl (st : SortSt) : SG st st := ⟨gallopOf st, rfl⟩
theorem SG.set {st st' : SortSt} (h : SG st st') (g : Nat) : SG st (setGallop st' g) := by obtain ⟨g', rfl⟩ := h; exact ⟨g, rfl⟩
theorem SG.kind {st st' : SortSt} (h : SG st st') : kindOf st' = kindOf st := by obtain ⟨g', rfl⟩ := h; rfl
theorem wp_rule {tag : String} {Q : PUnit → SortSt → Prop} {st : SortSt} (q : Q ⟨⟩ st) : wpS M A E s (liftM (rule tag) : StateT SortSt Sem PUnit) Q st := wpS_lift (wpAny_rule ⟨rfl, q⟩)
theorem ext_none (o b : Array Keyed) (i : Nat) : o ++ b.extract i (i + 0) = o := by
  rw [Nat.add_zero, Array.extract_empty_of_stop_le_start (Nat.le_refl _), Array.append_empty]
theorem wp_mergeLo (C : Cmp M A E s kd D less) (T : Two D less a b) {st : SortSt} {Q : Array Keyed → SortSt → Prop} (hk : kindOf st = kd) (q : ∀ r st', SG st st' → RR less a b r → Q r st') : wpS M A E s (mergeLo' a b) Q st := by
  obtain ⟨y, hy, ly⟩ := arr_get T.nb
  have na := T.na
  have nb := T.nb
  have m : MSL (leq less) a.toList b.toList (#[y] : Array Keyed).toList 0 1 := by
    have m0 : MSL (leq less) a.toList b.toList (#[] : Array Keyed).toList 0 0 := ⟨by simp, by simp, fun x hx => by simp at hx⟩
    exact MI.pushB T m0 ly fun r hr => T.fst r (by simpa using hr) y ly
  unfold mergeLo'
  walk_at "open mergeLo"
  refine wpS_bind (wp_rule (wpS_bind (wp_elem hy ?_)))
  dsimp only
  by_cases h1 : (1 == b.size) = true
  · rw [if_pos h1]
    exact wpS_pure (q _ _ (.refl st) (end_b T m h1))
  rw [if_neg h1]
  by_cases h2 : (0 + 1 == a.size) = true
  · rw [if_pos h2]
    exact wpS_pure (q _ _ (.refl st) (end_l T m h2))
  rw [if_neg h2]
  have h1 : 1 ≠ b.size := fun z => h1 (beq_iff_eq.mpr z)
  have h2 : 0 + 1 ≠ a.size := fun z => h2 (beq_iff_eq.mpr z)
  have I : MI less a b #[y] 0 1 := ⟨m, by omega, by omega, rfl⟩
  -- round upon round
  refine wpS_bind (wpS_get (wpS_bind (wpS_mono (wpS_forRange (fun n (c : C3) st' => SG st st' ∧ c.1 = none ∧ MI less a b c.2.1 c.2.2.1 c.2.2.2.1 ∧ n < c.2.1.size) (Q := fun c st' => SG st st' ∧ ∃ r, c.1 = some r ∧ RR less a b r) ?_ ?_ ⟨.refl st, rfl, I, by show 0 < 1; decide⟩) ?_)))
  rotate_left
  · rintro ⟨c1, o, i, j, mg⟩ st' ⟨g1, e1, I1, s1⟩
    have s1 : max 0 (a.size + b.size) < o.size := s1
    have := I1.sz
    have := I1.la
    have := I1.lb
    dsimp only at *
    omega
  · rintro ⟨c1, o, i, j, mg⟩ st' ⟨g1, r, e1, h⟩
    obtain rfl : c1 = some r := e1
    exact wpS_pure (q _ _ g1 h)
  clear I m h1 h2 hy ly
  rintro n ⟨c1, out, ia, ib, mg⟩ st' _ hn' ⟨hg, e1, I, so⟩
  obtain rfl : c1 = none := e1
  replace so : n < out.size := so
  -- one by one
  refine wpS_bind (wpS_mono (wpS_forRange (fun n (c : C1) st' => SG st st' ∧ c.1 = none ∧ MI less a b c.2.1 c.2.2.1 c.2.2.2.1 ∧ out.size + (if n = 0 then 0 else 1) ≤ c.2.1.size) (Q := fun c st' => SG st st' ∧ ((∃ r, c.1 = some r ∧ RR less a b r) ∨ (c.1 = none ∧ MI less a b c.2.1 c.2.2.1 c.2.2.2.1 ∧ out.size < c.2.1.size))) ?_ ?_ ⟨hg, rfl, I, by simp⟩) ?_)
  · rintro n ⟨c1, o, i, j, ac, bc⟩ st' _ hn' ⟨g1, e1, I1, s1⟩
    obtain rfl : c1 = none := e1
    have s1 : out.size + (if n = 0 then 0 else 1) ≤ o.size := s1
    have s2 : out.size ≤ o.size := by split at s1 <;> omega
    have on : ∀ (o' : Array Keyed), o'.size = o.size + 1 → out.size < o'.size ∧ out.size + (if n + 1 = 0 then 0 else 1) ≤ o'.size := fun o' hs => ⟨by omega, by rw [if_neg (by omega)]; omega⟩
    have la1 := I1.la
    have lb1 := I1.lb
    have sz1 := I1.sz
    dsimp only at la1 lb1 sz1
    obtain ⟨y, hy, ly⟩ := arr_get I1.lb
    obtain ⟨x, hx, lx⟩ := arr_get (show i < a.size by omega)
    have dx := T.da x (mem_of_get lx)
    have dy := T.db y (mem_of_get ly)
    dsimp only
    refine wpS_bind (wp_elem hy (wpS_bind (wp_elem hx (wpS_bind (C.ans y x st' _ dy dx (g1.kind.trans hk) ?_)))))
    cases hw : less y x with
    | true =>
      dsimp only
      rw [if_pos rfl]
      have m := MI.pushB T I1.m ly fun r hr => leq_trans C dy dx (T.da r (List.mem_of_mem_drop hr)) (C.asy y x dy dx hw) (le_drop C T.sa T.da lx hr)
      refine wpS_bind (wp_elem hy ?_)
      by_cases he : (j + 1 == b.size) = true
      · rw [if_pos he]
        exact wpS_pure ⟨g1, .inl ⟨_, rfl, end_b T m he⟩⟩
      · rw [if_neg he]
        have he : j + 1 ≠ b.size := fun z => he (beq_iff_eq.mpr z)
        have I' : MI less a b (o.push y) i (j + 1) := ⟨m, la1, by omega, by rw [Array.size_push, sz1]; omega⟩
        have h2 := on _ (Array.size_push (xs := o) y)
        split
        · exact wpS_pure ⟨g1, .inr ⟨rfl, I', h2.1⟩⟩
        · exact wpS_pure ⟨g1, rfl, I', h2.2⟩
    | false =>
      dsimp only
      rw [if_neg Bool.false_ne_true]
      have m := MI.pushA T I1.m lx fun r hr => leq_trans C dx dy (T.db r (List.mem_of_mem_drop hr)) hw (le_drop C T.sb T.db ly hr)
      refine wpS_bind (wp_elem hx ?_)
      by_cases he : (i + 1 + 1 == a.size) = true
      · rw [if_pos he]
        exact wpS_pure ⟨g1, .inl ⟨_, rfl, end_l T m he⟩⟩
      · rw [if_neg he]
        have he : i + 1 + 1 ≠ a.size := fun z => he (beq_iff_eq.mpr z)
        have I' : MI less a b (o.push x) (i + 1) j := ⟨m, by omega, lb1, by rw [Array.size_push, sz1]; omega⟩
        have h2 := on _ (Array.size_push (xs := o) x)
        split
        · exact wpS_pure ⟨g1, .inr ⟨rfl, I', h2.1⟩⟩
        · exact wpS_pure ⟨g1, rfl, I', h2.2⟩
  · rintro ⟨c1, o, i, j, ac, bc⟩ st' ⟨g1, e1, I1, s1⟩
    refine ⟨g1, .inr ⟨e1, I1, ?_⟩⟩
    have s1 : out.size + (if max 0 (a.size + b.size) = 0 then 0 else 1) ≤ o.size := s1
    rw [if_neg (by omega)] at s1
    exact s1
  rintro ⟨c1, o, i, j, ac, bc⟩ st' ⟨g1, ⟨r, e1, h⟩ | ⟨e1, I1, s1⟩⟩
  · obtain rfl : c1 = some r := e1
    exact wpS_pure ⟨g1, r, rfl, h⟩
  obtain rfl : c1 = none := e1
  replace s1 : out.size < o.size := s1
  dsimp only
  -- by leaps
  refine wpS_bind (wp_rule (wpS_bind (wpS_mono (wpS_forRange (fun n (c : C2) st' => SG st st' ∧ c.1 = none ∧ MI less a b c.2.1 c.2.2.1 c.2.2.2.1 ∧ out.size < c.2.1.size) (Q := fun c st' => SG st st' ∧ ((∃ r, c.1 = some r ∧ RR less a b r) ∨ (c.1 = none ∧ MI less a b c.2.1 c.2.2.1 c.2.2.2.1 ∧ out.size < c.2.1.size))) ?_ ?_ ⟨g1, rfl, I1, s1⟩) ?_)))
  rotate_left
  · rintro ⟨c1, o, i, j, mg, ac, bc⟩ st' ⟨g1, e1, I1, s1⟩
    exact ⟨g1, .inr ⟨e1, I1, s1⟩⟩
  · rintro ⟨c1, o, i, j, mg, ac, bc⟩ st' ⟨g1, ⟨r, e1, h⟩ | ⟨e1, I1, s1⟩⟩
    · obtain rfl : c1 = some r := e1
      exact wpS_pure ⟨g1, r, rfl, h⟩
    · obtain rfl : c1 = none := e1
      dsimp only
      have s1 : out.size < o.size := s1
      exact wpS_bind (wp_setMin (wpS_pure ⟨g1.set _, rfl, I1, by show n + 1 < o.size; omega⟩))
  clear I1 s1 g1 I hg
  rintro n2 ⟨c1, o, i, j, mg2, ac2, bc2⟩ st' _ hn2 ⟨g1, e1, I1, s1⟩
  obtain rfl : c1 = none := e1
  replace s1 : out.size < o.size := s1
  have la1 := I1.la
  have lb1 := I1.lb
  have sz1 := I1.sz
  dsimp only at la1 lb1 sz1
  obtain ⟨y, hy, ly⟩ := arr_get I1.lb
  have dy := T.db y (mem_of_get ly)
  dsimp only at hy ly ⊢
  by_cases hmg : mg2 > 1
  case' pos =>
    rw [if_pos hmg]
    generalize mg2 - 1 = mgn
  case' neg =>
    rw [if_neg hmg]
    generalize mg2 = mgn
  all_goals
    have g2 := g1.set mgn
    have hk2 := g2.kind.trans hk
    refine wpS_bind (wp_setMin (wpS_bind (wp_elem hy (wpS_bind (wp_leap C (st := setGallop st' mgn) hk2 dy T.sa T.da (by omega) (by omega) fun k hkn k1 k2 => ?_)))))
    simp only [Bool.false_eq_true, if_false, Bool.not_eq_true', Bool.not_eq_false'] at k1 k2
    dsimp only
    have m2 := I1.m.takeA T.sa k fun z hz r hr => by
      obtain ⟨n, hn, e⟩ := mem_take_drop hz
      exact leq_trans C (T.da z (List.mem_of_getElem? e)) dy (T.db r (List.mem_of_mem_drop hr)) (k1 n z hn e) (le_drop C T.sb T.db ly hr)
    have ab1 : ∀ r ∈ a.toList.drop (i + k), leq less y r := fun r hr => by
      obtain ⟨n, e, hl⟩ := mem_drop hr
      rw [Array.length_toList] at hl
      rw [Nat.add_assoc] at e
      exact C.asy y r dy (T.da r (List.mem_of_getElem? e)) (k2 (k + n) r (by omega) (by omega) e)
    dsimp only at m2
    rw [← ext_list] at m2
    have zo : (o ++ a.extract i (i + k)).size = i + k + j := by rw [ext_size o a i k (by omega)]; omega
    have zl : out.size < (o ++ a.extract i (i + k)).size := by rw [ext_size o a i k (by omega)]; omega
    by_cases h0 : k > 0
    case' pos =>
      rw [if_pos h0]
      by_cases he : (i + k + 1 == a.size) = true
      · rw [if_pos he]
        exact wpS_pure ⟨g2, .inl ⟨_, rfl, end_l T m2 he⟩⟩
      rw [if_neg he]
      by_cases he2 : (i + k == a.size) = true
      · rw [if_pos he2]
        exact wpS_pure ⟨g2, .inl ⟨_, rfl, end_a T m2 he2⟩⟩
      rw [if_neg he2]
      have li : i + k + 1 < a.size := by
        have he : i + k + 1 ≠ a.size := fun z => he (beq_iff_eq.mpr z)
        have he2 : i + k ≠ a.size := fun z => he2 (beq_iff_eq.mpr z)
        omega
      generalize o ++ a.extract i (i + k) = o1 at m2 zo zl ⊢
      generalize hi1 : i + k = i1 at m2 ab1 li zo ⊢
    case' neg =>
      rw [if_neg h0]
      obtain rfl : k = 0 := by omega
      rw [ext_none] at m2 zo zl
      have li : i + 1 < a.size := la1
      generalize ho1 : o = o1 at m2 zo zl ⊢
      generalize hi1 : i = i1 at m2 ab1 li zo ⊢
    all_goals
      refine wpS_bind (wp_elem hy ?_)
      have m3 := MI.pushB T m2 ly ab1
      by_cases he : (j + 1 == b.size) = true
      · rw [if_pos he]
        exact wpS_pure ⟨g2, .inl ⟨_, rfl, end_b T m3 he⟩⟩
      rw [if_neg he]
      have he : j + 1 ≠ b.size := fun z => he (beq_iff_eq.mpr z)
      obtain ⟨x, hx, lx⟩ := arr_get (Nat.lt_of_succ_lt li)
      have dx := T.da x (mem_of_get lx)
      refine wpS_bind (wp_elem hx (wpS_bind (wp_leap C (st := setGallop st' mgn) hk2 dx T.sb T.db (by omega) (by omega) fun k' hkn k1 k2 => ?_)))
      simp only [if_true] at k1 k2
      dsimp only
      have m4 := m3.takeB T.sb k' fun z hz r hr => by
        obtain ⟨n, hn, e⟩ := mem_take_drop hz
        exact leq_trans C (T.db z (List.mem_of_getElem? e)) dx (T.da r (List.mem_of_mem_drop hr)) (C.asy z x (T.db z (List.mem_of_getElem? e)) dx (k1 n z hn e)) (le_drop C T.sa T.da lx hr)
      have ab2 : ∀ r ∈ b.toList.drop (j + 1 + k'), leq less x r := fun r hr => by
        obtain ⟨n, e, hl⟩ := mem_drop hr
        rw [Array.length_toList] at hl
        rw [Nat.add_assoc] at e
        exact k2 (k' + n) r (by omega) (by omega) e
      rw [← ext_list] at m4
      have z4 := ext_size (o1.push y) b (j + 1) k' (by omega)
      rw [Array.size_push] at z4
      by_cases h0' : k' > 0
      case' pos =>
        rw [if_pos h0']
        by_cases he2 : (j + 1 + k' == b.size) = true
        · rw [if_pos he2]
          exact wpS_pure ⟨g2, .inl ⟨_, rfl, end_b T m4 he2⟩⟩
        rw [if_neg he2]
        have lj : j + 1 + k' < b.size := by
          have he2 : j + 1 + k' ≠ b.size := fun z => he2 (beq_iff_eq.mpr z)
          omega
        generalize o1.push y ++ b.extract (j + 1) (j + 1 + k') = o2 at m4 z4 ⊢
        generalize hj1 : j + 1 + k' = j1 at m4 ab2 lj ⊢
      case' neg =>
        rw [if_neg h0']
        obtain rfl : k' = 0 := by omega
        rw [ext_none] at m4 z4
        have lj : j + 1 < b.size := by omega
        generalize o1.push y = o2 at m4 z4 ⊢
        generalize hj1 : j + 1 = j1 at m4 ab2 lj ⊢
      all_goals
        refine wpS_bind (wp_elem hx ?_)
        have m5 := MI.pushA T m4 lx ab2
        by_cases he3 : (i1 + 1 + 1 == a.size) = true
        · rw [if_pos he3]
          exact wpS_pure ⟨g2, .inl ⟨_, rfl, end_l T m5 he3⟩⟩
        rw [if_neg he3]
        have he3 : i1 + 1 + 1 ≠ a.size := fun z => he3 (beq_iff_eq.mpr z)
        have I' : MI less a b (o2.push x) (i1 + 1) j1 := ⟨m5, by omega, lj, by rw [Array.size_push]; omega⟩
        have hl : out.size < (o2.push x).size := by rw [Array.size_push]; omega
        split
        · exact wpS_pure ⟨g2, .inr ⟨rfl, I', hl⟩⟩
        · exact wpS_pure ⟨g2, rfl, I', hl⟩
end TS

namespace TS
open PySem PyProof.Rows
def mergeHi' : Array Keyed → Array Keyed → StateT SortSt Sem (Array Keyed) := sortPriv% PySem.Builtin.mergeHi
abbrev H1 := Option (Array Keyed) × Nat × Nat × Array Keyed × Nat × Nat
abbrev H2 := Option (Array Keyed) × Nat × Nat × Array Keyed × Nat × Nat × Nat
abbrev H3 := Option (Array Keyed) × Nat × Nat × Array Keyed × Nat
section
variable (a b : Array Keyed)
abbrev dh (out : Array Keyed) (na nb : Nat) : Array Keyed := a.extract 0 na ++ b.extract 0 nb ++ out.reverse
abbrev fh (out : Array Keyed) (na nb : Nat) : Array Keyed := b.extract 0 nb ++ a.extract 0 na ++ out.reverse
end
end TS

namespace TS
open PySem PyProof.Rows
section
variable {α : Type} {le : α → α → Prop}
structure MSR (le : α → α → Prop) (xs ys o : List α) (i j : Nat) : Prop where
  perm : ((xs.take i ++ ys.take j) ++ o).Perm (xs ++ ys)
  srt : o.Pairwise le
  bel : ∀ x ∈ o, ∀ r ∈ xs.take i ++ ys.take j, le r x
variable {xs ys o : List α} {i j : Nat}
theorem cut (xs : List α) {t i : Nat} (h : t ≤ i) : xs.take t ++ (xs.take i).drop t = xs.take i := by
  have e : (xs.take i).take t = xs.take t := by rw [List.take_take, Nat.min_eq_left h]
  rw [← e, List.take_append_drop]
theorem MSR.takeA (m : MSR le xs ys o i j) (sx : xs.Pairwise le) {t : Nat} (ht : t ≤ i) (h : ∀ x ∈ (xs.take i).drop t, ∀ r ∈ ys.take j, le r x) : MSR le xs ys ((xs.take i).drop t ++ o) t j := by
  have d := cut xs ht
  have sd : (xs.take i).Pairwise le := sx.sublist (List.take_sublist _ _)
  rw [← d, List.pairwise_append] at sd
  refine ⟨?_, ?_, ?_⟩
  · have := m.perm
    rw [← d] at this
    refine List.Perm.trans ?_ this
    rw [← List.append_assoc]
    refine .append_right o ?_
    simp only [List.append_assoc]
    exact .append_left _ List.perm_append_comm
  · rw [List.pairwise_append]
    exact ⟨sd.2.1, m.srt, fun x hx y hy => m.bel y hy x (List.mem_append_left _ (List.mem_of_mem_drop hx))⟩
  · intro x hx r hr
    rcases List.mem_append.mp hx with hx | hx
    · rcases List.mem_append.mp hr with hr | hr
      · exact sd.2.2 r hr x hx
      · exact h x hx r hr
    · refine m.bel x hx r ?_
      rcases List.mem_append.mp hr with hr | hr
      · exact List.mem_append_left _ (by rw [← d]; exact List.mem_append_left _ hr)
      · exact List.mem_append_right _ hr
theorem MSR.takeB (m : MSR le xs ys o i j) (sy : ys.Pairwise le) {t : Nat} (ht : t ≤ j) (h : ∀ x ∈ (ys.take j).drop t, ∀ r ∈ xs.take i, le r x) : MSR le xs ys ((ys.take j).drop t ++ o) i t := by
  have d := cut ys ht
  have sd : (ys.take j).Pairwise le := sy.sublist (List.take_sublist _ _)
  rw [← d, List.pairwise_append] at sd
  refine ⟨?_, ?_, ?_⟩
  · have := m.perm
    rw [← d, ← List.append_assoc (xs.take i), List.append_assoc _ _ o] at this
    exact this
  · rw [List.pairwise_append]
    exact ⟨sd.2.1, m.srt, fun x hx y hy => m.bel y hy x (List.mem_append_right _ (List.mem_of_mem_drop hx))⟩
  · intro x hx r hr
    rcases List.mem_append.mp hx with hx | hx
    · rcases List.mem_append.mp hr with hr | hr
      · exact h x hx r hr
      · exact sd.2.2 r hr x hx
    · refine m.bel x hx r ?_
      rcases List.mem_append.mp hr with hr | hr
      · exact List.mem_append_left _ hr
      · exact List.mem_append_right _ (by rw [← d]; exact List.mem_append_left _ hr)
theorem MSR.doneA (m : MSR le xs ys o i j) (sy : ys.Pairwise le) (hi : i = 0) : Mgd le xs ys (xs.take i ++ ys.take j ++ o) := by
  subst hi
  refine ⟨m.perm, ?_⟩
  rw [List.take_zero, List.nil_append, List.pairwise_append]
  exact ⟨sy.sublist (List.take_sublist _ _), m.srt, fun x hx y hy => m.bel y hy x (List.mem_append_right _ hx)⟩
theorem MSR.doneB (m : MSR le xs ys o i j) (sx : xs.Pairwise le) (hj : j = 0) : Mgd le xs ys (xs.take i ++ ys.take j ++ o) := by
  subst hj
  refine ⟨m.perm, ?_⟩
  rw [List.take_zero, List.append_nil, List.pairwise_append]
  exact ⟨sx.sublist (List.take_sublist _ _), m.srt, fun x hx y hy => m.bel y hy x (List.mem_append_left _ hx)⟩
theorem MSR.first (m : MSR le xs ys o i j) (sx : xs.Pairwise le) (sy : ys.Pairwise le) (h : ∀ r ∈ ys.take j, ∀ x ∈ xs.take i, le r x) : Mgd le xs ys (ys.take j ++ xs.take i ++ o) := by
  refine ⟨(List.Perm.append_right _ List.perm_append_comm).trans m.perm, ?_⟩
  rw [List.pairwise_append]
  refine ⟨?_, m.srt, fun x hx y hy => m.bel y hy x ?_⟩
  · rw [List.pairwise_append]
    exact ⟨sy.sublist (List.take_sublist _ _), sx.sublist (List.take_sublist _ _), h⟩
  · rcases List.mem_append.mp hx with hx | hx
    · exact List.mem_append_right _ hx
    · exact List.mem_append_left _ hx
theorem last_one {xs : List α} {i : Nat} {x : α} (h : xs[i]? = some x) : (xs.take (i + 1)).drop i = [x] := by
  obtain ⟨hl, e⟩ := List.getElem?_eq_some_iff.mp h
  rw [List.drop_take]
  rw [show i + 1 - i = 1 by omega]
  exact take_one h
theorem mem_cut {xs : List α} {t i : Nat} {x : α} (h : x ∈ (xs.take i).drop t) : ∃ n, t ≤ n ∧ n < i ∧ xs[n]? = some x := by
  obtain ⟨n, e, hl⟩ := mem_drop h
  rw [List.length_take] at hl
  refine ⟨t + n, by omega, by omega, ?_⟩
  rw [List.getElem?_take_of_lt (by omega)] at e
  exact e
theorem mem_tk {xs : List α} {i : Nat} {x : α} (h : x ∈ xs.take i) : ∃ n, n < i ∧ xs[n]? = some x := by
  obtain ⟨n, hn, e⟩ := List.getElem_of_mem h
  have hl := hn
  rw [List.length_take] at hl
  rw [List.getElem_take] at e
  exact ⟨n, by omega, List.getElem?_eq_some_iff.mpr ⟨by omega, e⟩⟩
end
theorem ext0 (a : Array Keyed) (i : Nat) : (a.extract 0 i).toList = a.toList.take i := by rw [extract_list, List.drop_zero, Nat.sub_zero]
theorem dh_list (a b out : Array Keyed) (na nb : Nat) : (dh a b out na nb).toList = a.toList.take na ++ b.toList.take nb ++ out.toList.reverse := by
  unfold dh
  rw [Array.toList_append, Array.toList_append, ext0, ext0, Array.toList_reverse]
theorem fh_list (a b out : Array Keyed) (na nb : Nat) : (fh a b out na nb).toList = b.toList.take nb ++ a.toList.take na ++ out.toList.reverse := by
  unfold fh
  rw [Array.toList_append, Array.toList_append, ext0, ext0, Array.toList_reverse]
theorem rev_push (out : Array Keyed) (x : Keyed) : (out.push x).toList.reverse = x :: out.toList.reverse := by rw [Array.toList_push, List.reverse_append]; rfl
theorem rev_ext (out a : Array Keyed) (t i : Nat) : (out ++ (a.extract t i).reverse).toList.reverse = (a.toList.take i).drop t ++ out.toList.reverse := by
  rw [Array.toList_append, Array.toList_reverse, List.reverse_append, List.reverse_reverse, extract_list, List.drop_take]
theorem rev_size (out a : Array Keyed) (t i : Nat) (h : i ≤ a.size) : (out ++ (a.extract t i).reverse).size = out.size + (i - t) := by
  rw [Array.size_append, Array.size_reverse, Array.size_extract]
  omega
variable {M : Model} {A : Around} {E : Value → Shared → Prop} {s : Shared} {kd : SortKind} {D : Keyed → Prop} {less : Keyed → Keyed → Bool} {a b : Array Keyed}
abbrev HS (less : Keyed → Keyed → Bool) (a b out : Array Keyed) (na nb : Nat) : Prop := MSR (leq less) a.toList b.toList out.toList.reverse na nb
structure HI (less : Keyed → Keyed → Bool) (a b out : Array Keyed) (na nb : Nat) : Prop where
  m : HS less a b out na nb
  l1 : 0 < na
  l2 : na < a.size
  l3 : 1 < nb
  l4 : nb ≤ b.size
  sz : out.size + na + nb = a.size + b.size
theorem le_take (C : Cmp M A E s kd D less) {l : List Keyed} (sl : l.Pairwise (leq less)) (dl : ∀ x ∈ l, D x) {i : Nat} {x r : Keyed} (h : l[i]? = some x) (hr : r ∈ l.take (i + 1)) : leq less r x := by
  obtain ⟨n, hn, e⟩ := mem_tk hr
  rcases Nat.lt_or_ge n i with z | z
  · exact pw_get sl z e h
  · have : n = i := by omega
    subst this
    rw [h] at e; cases e
    exact C.irr x (dl x (List.mem_of_getElem? h))
theorem pushA (T : Two D less a b) {out : Array Keyed} {na nb : Nat} {x : Keyed} (m : HS less a b out (na + 1) nb) (hx : a.toList[na]? = some x) (h : ∀ r ∈ b.toList.take nb, leq less r x) : HS less a b (out.push x) na nb := by
  have := m.takeA T.sa (t := na) (by omega) (by rw [last_one hx]; intro z hz r hr; rw [List.mem_singleton.mp hz]; exact h r hr)
  rw [last_one hx] at this
  unfold HS
  rw [rev_push]
  exact this
theorem pushB (T : Two D less a b) {out : Array Keyed} {na nb : Nat} {y : Keyed} (m : HS less a b out na (nb + 1)) (hy : b.toList[nb]? = some y) (h : ∀ r ∈ a.toList.take na, leq less r y) : HS less a b (out.push y) na nb := by
  have := m.takeB T.sb (t := nb) (by omega) (by rw [last_one hy]; intro z hz r hr; rw [List.mem_singleton.mp hz]; exact h r hr)
  rw [last_one hy] at this
  unfold HS
  rw [rev_push]
  exact this
theorem hend_a (T : Two D less a b) {out : Array Keyed} {na nb : Nat} (m : HS less a b out na nb) (h : (na == 0) = true) : RR less a b (dh a b out na nb) := by
  unfold RR
  rw [dh_list]
  exact m.doneA T.sb (beq_iff_eq.mp h)
theorem hend_b (T : Two D less a b) {out : Array Keyed} {na nb : Nat} (m : HS less a b out na nb) (h : (nb == 0) = true) : RR less a b (dh a b out na nb) := by
  unfold RR
  rw [dh_list]
  exact m.doneB T.sa (beq_iff_eq.mp h)
theorem hend_f (T : Two D less a b) {out : Array Keyed} {na nb : Nat} (m : HS less a b out na nb) (h : (nb == 1) = true) : RR less a b (fh a b out na nb) := by
  unfold RR
  rw [fh_list]
  refine m.first T.sa T.sb fun r hr x hx => ?_
  obtain ⟨n, hn, e⟩ := mem_tk hr
  have h1 := beq_iff_eq.mp h
  have : n = 0 := by omega
  subst this
  exact T.fst x (List.mem_of_mem_take hx) r e
end TS

namespace TS
open PySem PyProof.Rows
variable {M : Model} {A : Around} {E : Value → Shared → Prop} {s : Shared} {kd : SortKind} {D : Keyed → Prop} {less : Keyed → Keyed → Bool} {a b : Array Keyed}
/-- a private function of the model, opened where it stands -/
local macro_rules | `(tactic| walk_at "open mergeHi") => do
  let n := Lean.mkIdent (.str (.str (.str (.num (.str (.str (.str (.str (.str .anonymous "_private") "PySem") "Builtin") "List") "W1All") 0) "PySem") "Builtin") "mergeHi")
  `(tactic| delta $n:ident)
theorem wp_mergeHi (C : Cmp M A E s kd D less) (T : Two D less a b) {st : SortSt} {Q : Array Keyed → SortSt → Prop} (hk : kindOf st = kd) (q : ∀ r st', SG st st' → RR less a b r → Q r st') : wpS M A E s (mergeHi' a b) Q st := by
  have na := T.na
  have nb := T.nb
  obtain ⟨x, hx, lx⟩ := arr_get (show a.size - 1 < a.size by omega)
  have m : HS less a b #[x] (a.size - 1) b.size := by
    have m0 : HS less a b #[] (a.size - 1 + 1) b.size := by
      rw [show a.size - 1 + 1 = a.size by omega]
      refine ⟨?_, by simp, fun x hx => by simp at hx⟩
      rw [List.take_of_length_le (by rw [Array.length_toList]; exact Nat.le_refl _), List.take_of_length_le (by rw [Array.length_toList]; exact Nat.le_refl _)]
      simp
    exact pushA T m0 lx fun r hr => T.lst r (List.mem_of_mem_take hr) x lx
  unfold mergeHi'
  walk_at "open mergeHi"
  refine wpS_bind (wp_rule (wpS_bind (wp_elem hx ?_)))
  dsimp only
  by_cases h1 : (a.size - 1 == 0) = true
  · rw [if_pos h1]
    exact wpS_pure (q _ _ (.refl st) (hend_a T m h1))
  rw [if_neg h1]
  by_cases h2 : (b.size == 1) = true
  · rw [if_pos h2]
    exact wpS_pure (q _ _ (.refl st) (hend_f T m h2))
  rw [if_neg h2]
  have h1 : a.size - 1 ≠ 0 := fun z => h1 (beq_iff_eq.mpr z)
  have h2 : b.size ≠ 1 := fun z => h2 (beq_iff_eq.mpr z)
  have I : HI less a b #[x] (a.size - 1) b.size := ⟨m, by omega, by omega, by omega, Nat.le_refl _, by show 1 + (a.size - 1) + b.size = _; omega⟩
  -- round upon round
  refine wpS_bind (wpS_get (wpS_bind (wpS_mono (wpS_forRange (fun n (c : H3) st' => SG st st' ∧ c.1 = none ∧ HI less a b c.2.2.2.1 c.2.1 c.2.2.1 ∧ n < c.2.2.2.1.size) (Q := fun c st' => SG st st' ∧ ∃ r, c.1 = some r ∧ RR less a b r) ?_ ?_ ⟨.refl st, rfl, I, by show 0 < 1; decide⟩) ?_)))
  rotate_left
  · rintro ⟨c1, i, j, o, mg⟩ st' ⟨g1, e1, I1, s1⟩
    have s1 : max 0 (a.size + b.size) < o.size := s1
    have := I1.sz
    have := I1.l1
    dsimp only at *
    omega
  · rintro ⟨c1, i, j, o, mg⟩ st' ⟨g1, r, e1, h⟩
    obtain rfl : c1 = some r := e1
    exact wpS_pure (q _ _ g1 h)
  clear I m h1 h2 hx lx
  rintro n ⟨c1, ia, ib, out, mg⟩ st' _ hn' ⟨hg, e1, I, so⟩
  obtain rfl : c1 = none := e1
  replace so : n < out.size := so
  -- one by one
  refine wpS_bind (wpS_mono (wpS_forRange (fun n (c : H1) st' => SG st st' ∧ c.1 = none ∧ HI less a b c.2.2.2.1 c.2.1 c.2.2.1 ∧ out.size + (if n = 0 then 0 else 1) ≤ c.2.2.2.1.size) (Q := fun c st' => SG st st' ∧ ((∃ r, c.1 = some r ∧ RR less a b r) ∨ (c.1 = none ∧ HI less a b c.2.2.2.1 c.2.1 c.2.2.1 ∧ out.size < c.2.2.2.1.size))) ?_ ?_ ⟨hg, rfl, I, by simp⟩) ?_)
  · rintro n ⟨c1, i, j, o, ac, bc⟩ st' _ hn' ⟨g1, e1, I1, s1⟩
    obtain rfl : c1 = none := e1
    have s1 : out.size + (if n = 0 then 0 else 1) ≤ o.size := s1
    have s2 : out.size ≤ o.size := by split at s1 <;> omega
    have on : ∀ (o' : Array Keyed), o'.size = o.size + 1 → out.size < o'.size ∧ out.size + (if n + 1 = 0 then 0 else 1) ≤ o'.size := fun o' hs => ⟨by omega, by rw [if_neg (by omega)]; omega⟩
    obtain ⟨m, l1, l2, l3, l4, sz⟩ := I1
    dsimp only at m l1 l2 l3 l4 sz
    obtain ⟨i, rfl⟩ : ∃ k, i = k + 1 := ⟨i - 1, by omega⟩
    obtain ⟨j, rfl⟩ : ∃ k, j = k + 1 := ⟨j - 1, by omega⟩
    obtain ⟨y, hy, ly⟩ := arr_get (show j < b.size by omega)
    obtain ⟨x, hx, lx⟩ := arr_get (show i < a.size by omega)
    have dx := T.da x (mem_of_get lx)
    have dy := T.db y (mem_of_get ly)
    dsimp only
    simp only [Nat.add_sub_cancel]
    refine wpS_bind (wp_elem hy (wpS_bind (wp_elem hx (wpS_bind (C.ans y x st' _ dy dx (g1.kind.trans hk) ?_)))))
    cases hw : less y x with
    | true =>
      dsimp only
      rw [if_pos rfl]
      have m' := pushA T m lx fun r hr => leq_trans C (T.db r (List.mem_of_mem_take hr)) dy dx (le_take C T.sb T.db ly hr) (C.asy y x dy dx hw)
      refine wpS_bind (wp_elem hx ?_)
      by_cases he : (i == 0) = true
      · rw [if_pos he]
        exact wpS_pure ⟨g1, .inl ⟨_, rfl, hend_a T m' he⟩⟩
      · rw [if_neg he]
        have he : i ≠ 0 := fun z => he (beq_iff_eq.mpr z)
        have I' : HI less a b (o.push x) i (j + 1) := ⟨m', by omega, by omega, l3, l4, by rw [Array.size_push]; omega⟩
        have h2 := on _ (Array.size_push (xs := o) x)
        split
        · exact wpS_pure ⟨g1, .inr ⟨rfl, I', h2.1⟩⟩
        · exact wpS_pure ⟨g1, rfl, I', h2.2⟩
    | false =>
      dsimp only
      rw [if_neg Bool.false_ne_true]
      have m' := pushB T m ly fun r hr => leq_trans C (T.da r (List.mem_of_mem_take hr)) dx dy (le_take C T.sa T.da lx hr) hw
      refine wpS_bind (wp_elem hy ?_)
      by_cases he : (j == 1) = true
      · rw [if_pos he]
        exact wpS_pure ⟨g1, .inl ⟨_, rfl, hend_f T m' he⟩⟩
      · rw [if_neg he]
        have he : j ≠ 1 := fun z => he (beq_iff_eq.mpr z)
        have I' : HI less a b (o.push y) (i + 1) j := ⟨m', by omega, l2, by omega, by omega, by rw [Array.size_push]; omega⟩
        have h2 := on _ (Array.size_push (xs := o) y)
        split
        · exact wpS_pure ⟨g1, .inr ⟨rfl, I', h2.1⟩⟩
        · exact wpS_pure ⟨g1, rfl, I', h2.2⟩
  · rintro ⟨c1, i, j, o, ac, bc⟩ st' ⟨g1, e1, I1, s1⟩
    refine ⟨g1, .inr ⟨e1, I1, ?_⟩⟩
    have s1 : out.size + (if max 0 (a.size + b.size) = 0 then 0 else 1) ≤ o.size := s1
    rw [if_neg (by omega)] at s1
    exact s1
  rintro ⟨c1, i, j, o, ac, bc⟩ st' ⟨g1, ⟨r, e1, h⟩ | ⟨e1, I1, s1⟩⟩
  · obtain rfl : c1 = some r := e1
    exact wpS_pure ⟨g1, r, rfl, h⟩
  obtain rfl : c1 = none := e1
  replace s1 : out.size < o.size := s1
  dsimp only
  -- by leaps
  refine wpS_bind (wp_rule (wpS_bind (wpS_mono (wpS_forRange (fun n (c : H2) st' => SG st st' ∧ c.1 = none ∧ HI less a b c.2.2.2.1 c.2.1 c.2.2.1 ∧ out.size < c.2.2.2.1.size) (Q := fun c st' => SG st st' ∧ ((∃ r, c.1 = some r ∧ RR less a b r) ∨ (c.1 = none ∧ HI less a b c.2.2.2.1 c.2.1 c.2.2.1 ∧ out.size < c.2.2.2.1.size))) ?_ ?_ ⟨g1, rfl, I1, s1⟩) ?_)))
  rotate_left
  · rintro ⟨c1, i, j, o, mg, ac, bc⟩ st' ⟨g1, e1, I1, s1⟩
    exact ⟨g1, .inr ⟨e1, I1, s1⟩⟩
  · rintro ⟨c1, i, j, o, mg, ac, bc⟩ st' ⟨g1, ⟨r, e1, h⟩ | ⟨e1, I1, s1⟩⟩
    · obtain rfl : c1 = some r := e1
      exact wpS_pure ⟨g1, r, rfl, h⟩
    · obtain rfl : c1 = none := e1
      dsimp only
      have s1 : out.size < o.size := s1
      exact wpS_bind (wp_setMin (wpS_pure ⟨g1.set _, rfl, I1, by show n + 1 < o.size; omega⟩))
  clear I1 s1 g1 I hg
  rintro n2 ⟨c1, i, j, o, mg2, ac2, bc2⟩ st' _ hn2 ⟨g1, e1, I1, s1⟩
  obtain rfl : c1 = none := e1
  replace s1 : out.size < o.size := s1
  obtain ⟨m, l1, l2, l3, l4, sz⟩ := I1
  dsimp only at m l1 l2 l3 l4 sz
  obtain ⟨j, rfl⟩ : ∃ k, j = k + 1 := ⟨j - 1, by omega⟩
  obtain ⟨y, hy, ly⟩ := arr_get (show j < b.size by omega)
  have dy := T.db y (mem_of_get ly)
  dsimp only
  simp only [Nat.add_sub_cancel]
  by_cases hmg : mg2 > 1
  case' pos =>
    rw [if_pos hmg]
    generalize mg2 - 1 = mgn
  case' neg =>
    rw [if_neg hmg]
    generalize mg2 = mgn
  all_goals
    have g2 := g1.set mgn
    have hk2 := g2.kind.trans hk
    refine wpS_bind (wp_setMin (wpS_bind (wp_elem hy (wpS_bind (wp_leap C (st := setGallop st' mgn) hk2 dy T.sa T.da (by omega) (by omega) fun t htn k1 k2 => ?_)))))
    simp only [Bool.false_eq_true, if_false, Bool.not_eq_true', Bool.not_eq_false', Nat.zero_add] at k1 k2
    dsimp only
    have m2 := m.takeA T.sa htn fun z hz r hr => by
      obtain ⟨n, hn1, hn2, e⟩ := mem_cut hz
      have dz := T.da z (List.mem_of_getElem? e)
      exact leq_trans C (T.db r (List.mem_of_mem_take hr)) dy dz (le_take C T.sb T.db ly hr) (C.asy y z dy dz (k2 n z hn1 hn2 e))
    have ab1 : ∀ r ∈ a.toList.take t, leq less r y := fun r hr => by
      obtain ⟨n, hn, e⟩ := mem_tk hr
      exact k1 n r hn e
    by_cases h0 : i - t > 0
    case' pos =>
      rw [if_pos h0]
      have m3 : HS less a b (o ++ (a.extract t i).reverse) t (j + 1) := by
        unfold HS
        rw [rev_ext]
        exact m2
      have zo := rev_size o a t i (by omega)
      by_cases he : (t == 0) = true
      · rw [if_pos he]
        exact wpS_pure ⟨g2, .inl ⟨_, rfl, hend_a T m3 he⟩⟩
      rw [if_neg he]
      have t0 : 0 < t := Nat.pos_of_ne_zero fun z => he (beq_iff_eq.mpr z)
      have t1 : t < a.size := by omega
      have zs : (o ++ (a.extract t i).reverse).size + t + (j + 1) = a.size + b.size := by omega
      have zl : out.size < (o ++ (a.extract t i).reverse).size := by omega
      generalize o ++ (a.extract t i).reverse = o1 at m3 zs zl ⊢
    case' neg =>
      rw [if_neg h0]
      obtain rfl : t = i := by omega
      have m3 := m
      have t0 : 0 < t := l1
      have t1 : t < a.size := l2
      have zs := sz
      have zl := s1
      generalize o = o1 at m3 zs zl ⊢
    all_goals
      refine wpS_bind (wp_elem hy ?_)
      have m4 := pushB T m3 ly ab1
      by_cases he2 : (j == 1) = true
      · rw [if_pos he2]
        exact wpS_pure ⟨g2, .inl ⟨_, rfl, hend_f T m4 he2⟩⟩
      rw [if_neg he2]
      have he2 : j ≠ 1 := fun z => he2 (beq_iff_eq.mpr z)
      obtain ⟨t, rfl⟩ : ∃ k, t = k + 1 := ⟨t - 1, by omega⟩
      obtain ⟨x, hx, lx⟩ := arr_get (show t < a.size by omega)
      have dx := T.da x (mem_of_get lx)
      simp only [Nat.add_sub_cancel]
      refine wpS_bind (wp_elem hx (wpS_bind (wp_leap C (st := setGallop st' mgn) hk2 dx T.sb T.db (by omega) (by omega) fun t' htn' k1 k2 => ?_)))
      simp only [if_true, Nat.zero_add] at k1 k2
      dsimp only
      have m5 := m4.takeB T.sb htn' fun z hz r hr => by
        obtain ⟨n, hn1, hn2, e⟩ := mem_cut hz
        have dz := T.db z (List.mem_of_getElem? e)
        exact leq_trans C (T.da r (List.mem_of_mem_take hr)) dx dz (le_take C T.sa T.da lx hr) (k2 n z hn1 hn2 e)
      have ab2 : ∀ r ∈ b.toList.take t', leq less r x := fun r hr => by
        obtain ⟨n, hn, e⟩ := mem_tk hr
        exact C.asy r x (T.db r (List.mem_of_getElem? e)) dx (k1 n r hn e)
      by_cases h0' : j - t' > 0
      case' pos =>
        rw [if_pos h0']
        have m6 : HS less a b (o1.push y ++ (b.extract t' j).reverse) (t + 1) t' := by
          unfold HS
          rw [rev_ext]
          exact m5
        have zo := rev_size (o1.push y) b t' j (by omega)
        rw [Array.size_push] at zo
        by_cases he3 : (t' == 1) = true
        · rw [if_pos he3]
          exact wpS_pure ⟨g2, .inl ⟨_, rfl, hend_f T m6 he3⟩⟩
        rw [if_neg he3]
        by_cases he4 : (t' == 0) = true
        · rw [if_pos he4]
          exact wpS_pure ⟨g2, .inl ⟨_, rfl, hend_b T m6 he4⟩⟩
        rw [if_neg he4]
        have he3 : t' ≠ 1 := fun z => he3 (beq_iff_eq.mpr z)
        have he4 : t' ≠ 0 := fun z => he4 (beq_iff_eq.mpr z)
        have u1 : 1 < t' := by omega
        have u2 : t' ≤ b.size := by omega
        have us : (o1.push y ++ (b.extract t' j).reverse).size + (t + 1) + t' = a.size + b.size := by omega
        have ul : out.size < (o1.push y ++ (b.extract t' j).reverse).size := by omega
        generalize o1.push y ++ (b.extract t' j).reverse = o2 at m6 us ul ⊢
      case' neg =>
        rw [if_neg h0']
        obtain rfl : t' = j := by omega
        have m6 := m4
        have u1 : 1 < t' := by omega
        have u2 : t' ≤ b.size := by omega
        have us : (o1.push y).size + (t + 1) + t' = a.size + b.size := by rw [Array.size_push]; omega
        have ul : out.size < (o1.push y).size := by rw [Array.size_push]; omega
        generalize o1.push y = o2 at m6 us ul ⊢
      all_goals
        refine wpS_bind (wp_elem hx ?_)
        have m7 := pushA T m6 lx ab2
        by_cases he5 : (t == 0) = true
        · rw [if_pos he5]
          exact wpS_pure ⟨g2, .inl ⟨_, rfl, hend_a T m7 he5⟩⟩
        rw [if_neg he5]
        have he5 : t ≠ 0 := fun z => he5 (beq_iff_eq.mpr z)
        have I' : HI less a b (o2.push x) t t' := ⟨m7, by omega, by omega, u1, u2, by rw [Array.size_push]; omega⟩
        have hl : out.size < (o2.push x).size := by rw [Array.size_push]; omega
        split
        · exact wpS_pure ⟨g2, .inr ⟨rfl, I', hl⟩⟩
        · exact wpS_pure ⟨g2, rfl, I', hl⟩
end TS

namespace TS
open PySem PyProof.Rows
variable {M : Model} {A : Around} {E : Value → Shared → Prop} {s : Shared} {kd : SortKind} {D : Keyed → Prop} {less : Keyed → Keyed → Bool}
/-- a private function of the model, opened where it stands -/
local macro_rules | `(tactic| walk_at "open mergeAt") => do
  let n := Lean.mkIdent (.str (.str (.str (.num (.str (.str (.str (.str (.str .anonymous "_private") "PySem") "Builtin") "List") "W1All") 0) "PySem") "Builtin") "mergeAt")
  `(tactic| delta $n:ident)
/-- a leap over a part that is sorted -/
theorem wp_leapS (C : Cmp M A E s kd D less) {left : Bool} {key : Keyed} {arr : Array Keyed} {base n hint : Nat} {X : List Keyed} {Q : Option Nat → SortSt → Prop} {st : SortSt} (hk : kindOf st = kd) (hd : D key) (hX : ∀ i, i < n → arr.toList[base + i]? = X[i]?) (hn : X.length = n) (sl : X.Pairwise (leq less)) (dl : ∀ x ∈ X, D x) (hh : hint < n)
    (q : ∀ k, k ≤ n → (∀ x ∈ X.take k, (if left then less x key else !less key x) = true) → (∀ x ∈ X.drop k, (if left then less x key else !less key x) = false) → Q (some k) st) : wpS M A E s (gallop' left key arr base n hint) Q st := by
  have at' : ∀ i, i < n → ∃ x, X[i]? = some x ∧ arr.toList[base + i]? = some x := fun i hi => ⟨X[i], List.getElem?_eq_getElem (by omega), by rw [hX i hi]; exact List.getElem?_eq_getElem (by omega)⟩
  refine wp_gallop C hk hd (fun i hi => ?_) (fun i j hij hj hbj => ?_) hh fun k k1 k2 k3 => q k k1 (fun x hx => ?_) (fun x hx => ?_)
  · obtain ⟨x, h1, h2⟩ := at' i hi
    exact ⟨x, by rw [← Array.getElem?_toList]; exact h2, dl x (List.mem_of_getElem? h1)⟩
  · obtain ⟨x, h1, lx⟩ := at' i (by omega)
    obtain ⟨y, h2, ly⟩ := at' j hj
    rw [byd_at ly] at hbj
    rw [byd_at lx]
    have dx := dl x (List.mem_of_getElem? h1)
    have dy := dl y (List.mem_of_getElem? h2)
    have hxy : leq less x y := by
      rcases Nat.lt_or_ge i j with h | h
      · exact pw_get sl h h1 h2
      · have : i = j := by omega
        subst this
        rw [h1] at h2; cases h2
        exact C.irr x dx
    cases left with
    | true =>
      simp only [if_true] at hbj ⊢
      cases hz : less x key with
      | true => rfl
      | false => rw [C.tr key x y hd dx dy hz hxy] at hbj; cases hbj
    | false =>
      simp only [Bool.false_eq_true, if_false, Bool.not_eq_true'] at hbj ⊢
      exact C.tr x y key dx dy hd hxy hbj
  · obtain ⟨i, hi, e⟩ := mem_tk hx
    rw [← byd_at (base := base) (arr := arr) (i := i) (by rw [hX i (by omega)]; exact e)]
    exact k2 i hi
  · obtain ⟨i, e, hl⟩ := mem_drop hx
    rw [← byd_at (base := base) (arr := arr) (i := k + i) (by rw [hX (k + i) (by omega)]; exact e)]
    exact k3 (k + i) (by omega) (by omega)
theorem write_at : ∀ (m : List Keyed) (base n : Nat) (arr : Array Keyed) (P B R : List Keyed), arr.toList = P ++ B ++ R → P.length = base + n → B.length = m.length →
    ((m.zipIdx n).foldl (fun (a : Array Keyed) (p : Keyed × Nat) => a.setIfInBounds (base + p.2) p.1) arr).toList = P ++ m ++ R
  | [], base, n, arr, P, B, R, e, h1, h2 => by
    rw [List.length_nil, List.length_eq_zero_iff] at h2
    subst h2
    exact e
  | p :: m, base, n, arr, P, [], R, e, h1, h2 => by simp at h2
  | p :: m, base, n, arr, P, b :: B, R, e, h1, h2 => by
    rw [List.zipIdx_cons, List.foldl_cons]
    have e2 : (arr.setIfInBounds (base + n) p).toList = (P ++ [p]) ++ B ++ R := by
      rw [Array.toList_setIfInBounds, e, ← h1]
      simp [List.set_append]
    rw [write_at m base (n + 1) _ (P ++ [p]) B R e2 (by rw [List.length_append, h1]; rfl) (by simpa using h2)]
    simp
theorem wp_mergeAt (C : Cmp M A E s kd D less) {i sa na nb sb pw pw2 : Nat} {st : SortSt} {P X Y R : List Keyed} {Q : Bool → SortSt → Prop} (hk : kindOf st = kd) (hf : failedOf st = none) (h1 : (pendingOf st)[i]? = some (sa, na, pw)) (h2 : (pendingOf st)[i + 1]? = some (sb, nb, pw2))
    (hL : (arrOf st).toList = P ++ X ++ Y ++ R) (hP : P.length = sa) (hX : X.length = na) (hY : Y.length = nb) (hsb : sb = sa + na) (na0 : 0 < na) (nb0 : 0 < nb) (sX : X.Pairwise (leq less)) (sY : Y.Pairwise (leq less)) (dX : ∀ x ∈ X, D x) (dY : ∀ x ∈ Y, D x)
    (q : ∀ (Z : List Keyed) (arr' : Array Keyed) (g : Nat), Z.Perm (X ++ Y) → Z.Pairwise (leq less) → arr'.toList = P ++ Z ++ R → Q true (SortSt.mk' (kindOf st) arr' (((pendingOf st).setIfInBounds i (sa, na + nb, pw)).eraseIdxIfInBounds (i + 1)) g none)) : wpS M A E s (mergeAt' i) Q st := by
  subst hsb
  have atX : ∀ j, j < na → (arrOf st).toList[sa + j]? = X[j]? := fun j hj => by
    rw [hL, List.append_assoc, List.append_assoc, List.getElem?_append_right (by omega), List.getElem?_append_left (by omega), hP, Nat.add_sub_cancel_left]
  have atY : ∀ j, j < nb → (arrOf st).toList[sa + na + j]? = Y[j]? := fun j hj => by
    rw [hL, List.append_assoc, List.getElem?_append_right (by rw [List.length_append]; omega), List.getElem?_append_left (by rw [List.length_append]; omega)]
    congr 1
    rw [List.length_append]; omega
  obtain ⟨y0, hy0⟩ : ∃ y, Y[0]? = some y := ⟨Y[0], List.getElem?_eq_getElem (by omega)⟩
  obtain ⟨xl, hxl⟩ : ∃ x, X[na - 1]? = some x := ⟨X[na - 1], List.getElem?_eq_getElem (by omega)⟩
  have dy0 := dY y0 (List.mem_of_getElem? hy0)
  have dxl := dX xl (List.mem_of_getElem? hxl)
  have y0le : ∀ y ∈ Y, leq less y0 y := fun y hy => le_drop C sY dY hy0 (by simpa using hy)
  have lexl : ∀ x ∈ X, leq less x xl := fun x hx => le_take C sX dX hxl (by rw [show na - 1 + 1 = na by omega, List.take_of_length_le (by omega)]; exact hx)
  have ey0 : (arrOf st)[sa + na]? = some y0 := by rw [← Array.getElem?_toList]; have := atY 0 nb0; rw [Nat.add_zero] at this; rw [this]; exact hy0
  unfold mergeAt'
  walk_at "open mergeAt"
  refine wpS_bind (wpS_get ?_)
  dsimp only
  have h1' := h1
  have h2' := h2
  dsimp only [pendingOf] at h1' h2'
  rw [h1', h2']
  dsimp only
  refine wpS_bind (wpS_modify (f := fun _ => setPending st (((pendingOf st).setIfInBounds i (sa, na + nb, pw)).eraseIdxIfInBounds (i + 1))) ?_)
  -- what is sorted already
  have keepZ : (X ++ Y).Pairwise (leq less) → Q true (setPending st (((pendingOf st).setIfInBounds i (sa, na + nb, pw)).eraseIdxIfInBounds (i + 1))) := fun hs => by
    have := q (X ++ Y) (arrOf st) (gallopOf st) (List.Perm.refl _) hs (by rw [hL, List.append_assoc P X Y])
    rw [← hf] at this
    exact this
  refine wpS_bind (wp_elem ey0 (wpS_bind (wp_leapS C (left := false) (st := setPending st _) hk dy0 atX hX sX dX na0 fun k hkn k1 k2 => ?_)))
  simp only [Bool.false_eq_true, if_false, Bool.not_eq_true', Bool.not_eq_false'] at k1 k2
  dsimp only
  by_cases e0 : (na - k == 0) = true
  · rw [if_pos e0]
    have e0 := beq_iff_eq.mp e0
    have : k = na := by omega
    subst this
    refine wpS_pure (keepZ ?_)
    rw [List.pairwise_append]
    refine ⟨sX, sY, fun x hx y hy => leq_trans C (dX x hx) dy0 (dY y hy) (k1 x (by rw [List.take_of_length_le (by omega)]; exact hx)) (y0le y hy)⟩
  · rw [if_neg e0]
    have e0 : na - k ≠ 0 := fun z => e0 (beq_iff_eq.mpr z)
    have exl : (arrOf st)[sa + k + (na - k) - 1]? = some xl := by
      rw [← Array.getElem?_toList, show sa + k + (na - k) - 1 = sa + (na - 1) by omega, atX _ (by omega)]
      exact hxl
    refine wpS_bind (wp_elem exl (wpS_bind (wp_leapS C (left := true) (st := setPending st _) hk dxl atY hY sY dY (by omega) fun t htn t1 t2 => ?_)))
    simp only [if_true] at t1 t2
    dsimp only
    by_cases e1 : (t == 0) = true
    · rw [if_pos e1]
      have e1 := beq_iff_eq.mp e1
      subst e1
      refine wpS_pure (keepZ ?_)
      rw [List.pairwise_append]
      refine ⟨sX, sY, fun x hx y hy => leq_trans C (dX x hx) dxl (dY y hy) (lexl x hx) (t2 y (by simpa using hy))⟩
    · rw [if_neg e1]
      have e1 : t ≠ 0 := fun z => e1 (beq_iff_eq.mpr z)
      have cx : ((arrOf st).extract (sa + k) (sa + na)).toList = X.drop k := by
        rw [extract_list, hL]
        refine List.ext_getElem? fun j => ?_
        by_cases hj : j < na - k
        · rw [List.getElem?_take_of_lt (by omega), List.getElem?_drop, ← hL, Nat.add_assoc, atX _ (by omega), List.getElem?_drop]
        · rw [List.getElem?_eq_none (by rw [List.length_take]; omega), List.getElem?_eq_none (by rw [List.length_drop]; omega)]
      have cy : ((arrOf st).extract (sa + na) (sa + na + t)).toList = Y.take t := by
        rw [extract_list, hL]
        refine List.ext_getElem? fun j => ?_
        by_cases hj : j < t
        · rw [List.getElem?_take_of_lt (by omega), List.getElem?_drop, ← hL, atY _ (by omega), List.getElem?_take_of_lt hj]
        · rw [List.getElem?_eq_none (by rw [List.length_take]; omega), List.getElem?_eq_none (by rw [List.length_take]; omega)]
      have sx : ((arrOf st).extract (sa + k) (sa + na)).size = na - k := by rw [← Array.length_toList, cx, List.length_drop, hX]
      have sy : ((arrOf st).extract (sa + na) (sa + na + t)).size = t := by rw [← Array.length_toList, cy, List.length_take, hY]; omega
      have T : Two D less ((arrOf st).extract (sa + k) (sa + na)) ((arrOf st).extract (sa + na) (sa + na + t)) := by
        refine ⟨by rw [cx]; exact sX.sublist (List.drop_sublist _ _), by rw [cy]; exact sY.sublist (List.take_sublist _ _), by rw [cx]; exact fun x hx => dX x (List.mem_of_mem_drop hx), by rw [cy]; exact fun x hx => dY x (List.mem_of_mem_take hx), by omega, by omega, ?_, ?_⟩
        · rw [cx, cy, sx]
          intro x hx z hz
          rw [List.getElem?_drop, show k + (na - k - 1) = na - 1 by omega, hxl] at hz
          cases hz
          exact C.asy x xl (dY x (List.mem_of_mem_take hx)) dxl (t1 x hx)
        · rw [cx, cy]
          intro x hx z hz
          rw [List.getElem?_take_of_lt (by omega), hy0] at hz
          cases hz
          exact C.asy y0 x dy0 (dX x (List.mem_of_mem_drop hx)) (k2 x hx)
      by_cases hle : na - k ≤ t
      case' pos =>
        rw [if_pos hle]
        refine wpS_bind (wp_mergeLo C T (st := setPending st _) hk fun r st' hg hr => ?_)
      case' neg =>
        rw [if_neg hle]
        refine wpS_bind (wp_mergeHi C T (st := setPending st _) hk fun r st' hg hr => ?_)
      all_goals
        obtain ⟨g, rfl⟩ := hg
        obtain ⟨rp, rs⟩ := hr
        rw [cx, cy] at rp
        refine wpS_bind (wpS_modify (wpS_bind (wpS_get (wpS_pure ?_))))
        have hlen : r.toList.length = na - k + t := by rw [rp.length_eq, List.length_append, List.length_drop, List.length_take, hX, hY]; omega
        have ew := write_at r.toList (sa + k) 0 (arrOf st) (P ++ X.take k) (X.drop k ++ Y.take t) (Y.drop t ++ R) (by
          rw [hL]
          have ex : X = X.take k ++ X.drop k := (List.take_append_drop k X).symm
          have ey : Y = Y.take t ++ Y.drop t := (List.take_append_drop t Y).symm
          conv => lhs; rw [ex, ey]
          simp only [List.append_assoc]) (by rw [List.length_append, List.length_take, hP, hX]; omega) (by rw [List.length_append, List.length_drop, List.length_take, hX, hY, hlen]; omega)
        have hm : ∀ x, x ∈ r.toList ↔ (x ∈ X.drop k ∨ x ∈ Y.take t) := fun x => by rw [rp.mem_iff, List.mem_append]
        have hq := q (X.take k ++ r.toList ++ Y.drop t) (r.toList.zipIdx.foldl (fun (a : Array Keyed) (p : Keyed × Nat) => a.setIfInBounds (sa + k + p.2) p.1) (arrOf st)) g ?_ ?_ ?_
        · show Q (failedOf st).isNone (SortSt.mk' (kindOf st) _ _ g (failedOf st))
          rw [hf]
          exact hq
        · have e : (X.take k ++ r.toList ++ Y.drop t).Perm (X.take k ++ (X.drop k ++ Y.take t) ++ Y.drop t) := List.Perm.append_right _ (List.Perm.append_left _ rp)
          refine e.trans (List.Perm.of_eq ?_)
          rw [← List.append_assoc, List.take_append_drop, List.append_assoc, List.take_append_drop]
        · rw [List.pairwise_append, List.pairwise_append]
          have dr : ∀ x ∈ r.toList, D x := fun x hx => ((hm x).mp hx).elim (fun z => dX x (List.mem_of_mem_drop z)) (fun z => dY x (List.mem_of_mem_take z))
          refine ⟨⟨sX.sublist (List.take_sublist _ _), rs, fun x hx z hz => ?_⟩, sY.sublist (List.drop_sublist _ _), fun x hx z hz => ?_⟩
          · have dx := dX x (List.mem_of_mem_take hx)
            rcases (hm z).mp hz with hz | hz
            · have := (List.take_append_drop k X) ▸ sX
              rw [List.pairwise_append] at this
              exact this.2.2 x hx z hz
            · exact leq_trans C dx dy0 (dY z (List.mem_of_mem_take hz)) (k1 x hx) (y0le z (List.mem_of_mem_take hz))
          · have dz := dY z (List.mem_of_mem_drop hz)
            have above : ∀ x ∈ X, leq less x z := fun x hx => leq_trans C (dX x hx) dxl dz (lexl x hx) (t2 z hz)
            rcases List.mem_append.mp hx with hx | hx
            · exact above x (List.mem_of_mem_take hx)
            · rcases (hm x).mp hx with hx | hx
              · exact above x (List.mem_of_mem_drop hx)
              · have := (List.take_append_drop t Y) ▸ sY
                rw [List.pairwise_append] at this
                exact this.2.2 x hx z hz
        · rw [ew]
          simp only [List.append_assoc]
end TS

namespace TS
open PySem PyProof.Rows
variable {M : Model} {A : Around} {E : Value → Shared → Prop} {s : Shared} {kd : SortKind} {D : Keyed → Prop} {less : Keyed → Keyed → Bool}
/-- the item at a place -/
def Kt (arr : Array Keyed) (i : Nat) : Keyed := (arr[i]?).getD (.none, .none)
theorem kt_get {arr : Array Keyed} {i : Nat} (h : i < arr.size) : arr[i]? = some (Kt arr i) := by unfold Kt; rw [Array.getElem?_eq_getElem h]; rfl
theorem kt_congr {x y : Array Keyed} {i j : Nat} (h : x[i]? = y[j]?) : Kt x i = Kt y j := by unfold Kt; rw [h]
theorem kt_mem {arr : Array Keyed} {i : Nat} (h : i < arr.size) : Kt arr i ∈ arr.toList := by
  have := kt_get h
  rw [← Array.getElem?_toList] at this
  exact List.mem_of_getElem? this
def Asc (less : Keyed → Keyed → Bool) (arr : Array Keyed) (lo hi : Nat) : Prop := ∀ i j, lo ≤ i → i < j → j < hi → leq less (Kt arr i) (Kt arr j)
def Dsc (less : Keyed → Keyed → Bool) (arr : Array Keyed) (lo hi : Nat) : Prop := ∀ i j, lo ≤ i → i < j → j < hi → leq less (Kt arr j) (Kt arr i)
/-- only what stands from lo to hi has been moved -/
structure AR (D : Keyed → Prop) (a0 : Array Keyed) (lo hi : Nat) (arr : Array Keyed) : Prop where
  perm : arr.Perm a0
  out : ∀ k, k < lo ∨ hi ≤ k → arr[k]? = a0[k]?
  dom : ∀ x ∈ a0.toList, D x
theorem AR.size {a0 arr : Array Keyed} {lo hi : Nat} (r : AR D a0 lo hi arr) : arr.size = a0.size := r.perm.size_eq
theorem AR.d {a0 arr : Array Keyed} {lo hi i : Nat} (r : AR D a0 lo hi arr) (h : i < a0.size) : D (Kt arr i) := r.dom _ ((Array.perm_iff_toList_perm.mp r.perm).mem_iff.mp (kt_mem (by rw [r.size]; exact h)))
theorem AR.mirror {a0 arr : Array Keyed} {lo hi i j : Nat} (r : AR D a0 lo hi arr) (hj : j ≤ hi) (hi' : lo ≤ i) (hs : hi ≤ a0.size) : AR D a0 lo hi (mirror arr i j ((j - i) / 2)) :=
  ⟨(mirror_perm ..).trans r.perm, fun k hk => by rw [getElem?_mirror_all (by rw [r.size]; omega), if_neg (by omega)]; exact r.out k hk, r.dom⟩
theorem AR.bubble {a0 arr : Array Keyed} {lo hi src d : Nat} (r : AR D a0 lo hi arr) (h1 : src < hi) (h2 : lo + d ≤ src) (hs : hi ≤ a0.size) : AR D a0 lo hi (bubble arr src d) :=
  ⟨(bubble_perm ..).trans r.perm, fun k hk => by rw [getElem?_bubble (by rw [r.size]; omega) _ (by omega), if_neg (by omega), if_neg (by omega)]; exact r.out k hk, r.dom⟩
theorem kt_mirror {arr : Array Keyed} {i j : Nat} (hj : j ≤ arr.size) (k : Nat) : Kt (mirror arr i j ((j - i) / 2)) k = if i ≤ k ∧ k < j then Kt arr (i + j - 1 - k) else Kt arr k := by
  split
  · exact kt_congr (by rw [getElem?_mirror_all hj, if_pos (by assumption)])
  · exact kt_congr (by rw [getElem?_mirror_all hj, if_neg (by assumption)])
theorem kt_bubble {arr : Array Keyed} {src d : Nat} (hs : src < arr.size) (hd : d ≤ src) (k : Nat) : Kt (bubble arr src d) k = if k = src - d then Kt arr src else if src - d < k ∧ k ≤ src then Kt arr (k - 1) else Kt arr k := by
  split
  · exact kt_congr (by rw [getElem?_bubble hs d hd, if_pos (by assumption)])
  · split
    · exact kt_congr (by rw [getElem?_bubble hs d hd, if_neg (by assumption), if_pos (by assumption)])
    · exact kt_congr (by rw [getElem?_bubble hs d hd, if_neg (by assumption), if_neg (by assumption)])
theorem wp_ltAt (C : Cmp M A E s kd D less) {a0 : Array Keyed} {lo hi i j : Nat} {st : SortSt} {Q : Option Bool → SortSt → Prop} (hk : kindOf st = kd) (r : AR D a0 lo hi (arrOf st)) (h1 : i < a0.size) (h2 : j < a0.size) (q : Q (some (less (Kt (arrOf st) i) (Kt (arrOf st) j))) st) : wpS M A E s (ltAt' i j) Q st := by
  rw [ltAt'_eq]
  refine wpS_bind (wpS_get (wpS_bind (wp_elem (kt_get (by rw [r.size]; exact h1)) (wpS_bind (wp_elem (kt_get (by rw [r.size]; exact h2)) ?_)))))
  exact C.ans _ _ st Q (r.d h1) (r.d h2) hk q
theorem wp_bin (C : Cmp M A E s kd D less) {lo n ok : Nat} {st : SortSt} {Q : Bool → SortSt → Prop} {a0 : Array Keyed} (hk : kindOf st = kd) (hn : lo + n ≤ a0.size) (hok : ok ≤ n) (r : AR D a0 lo (lo + n) (arrOf st)) (hs : Asc less (arrOf st) lo (lo + ok))
    (q : ∀ arr, AR D a0 lo (lo + n) arr → Asc less arr lo (lo + n) → Q true (setArr st arr)) : wpS M A E s (binarySort' lo n ok) Q st := by
  rw [binarySort'_eq]
  -- round by round one item more stands in its place
  refine wpS_bind (wpS_mono (wpS_forRange (I := fun k c st' => c = (none, ()) ∧ ∃ arr, st' = setArr st arr ∧ AR D a0 lo (lo + n) arr ∧ (k ≤ n → Asc less arr lo (lo + k)))
    (Q := fun c st' => c = (none, ()) ∧ ∃ arr, st' = setArr st arr ∧ AR D a0 lo (lo + n) arr ∧ Asc less arr lo (lo + n)) ?_ ?_ ⟨rfl, arrOf st, rfl, r, fun hle i j h1 h2 h3 => ?_⟩) ?_)
  rotate_left
  · rintro c st' ⟨hc, arr, e, r', hs'⟩
    have e2 : max (max ok 1) n = max 1 n := by omega
    rcases Nat.eq_zero_or_pos n with z | z
    · subst z
      exact ⟨hc, arr, e, r', fun i j h1 h2 h3 => by omega⟩
    · rw [e2, Nat.max_eq_right z] at hs'
      exact ⟨hc, arr, e, r', hs' (Nat.le_refl _)⟩
  · rcases Nat.eq_zero_or_pos ok with z | z
    · omega
    · exact hs i j h1 h2 (by omega)
  · rintro c st' ⟨rfl, arr, rfl, r', hs'⟩
    exact wpS_pure (q arr r' hs')
  rintro k c st' hak hkn ⟨rfl, arr, rfl, r', hs0⟩
  have hs' := hs0 (Nat.le_of_lt hkn)
  have dk := r'.d (i := lo + k) (by omega)
  have hks : lo + k < arr.size := by rw [r'.size]; omega
  -- its place is sought by halves: all ahead of l are no greater, all from u on are no less
  refine wpS_bind (wpS_mono (wpS_forRange (I := fun x (c : Option Bool × Nat × Nat) st2 => st2 = setArr st arr ∧ c.1 = none ∧ c.2.1 ≤ c.2.2 ∧ c.2.2 ≤ k ∧ c.2.2 + x ≤ k + c.2.1 ∧
      (∀ i, i < c.2.1 → leq less (Kt arr (lo + i)) (Kt arr (lo + k))) ∧ (∀ i, c.2.2 ≤ i → i < k → leq less (Kt arr (lo + k)) (Kt arr (lo + i))))
    (Q := fun c st2 => st2 = setArr st arr ∧ c.1 = none ∧ c.2.1 ≤ k ∧
      (∀ i, i < c.2.1 → leq less (Kt arr (lo + i)) (Kt arr (lo + k))) ∧ (∀ i, c.2.1 ≤ i → i < k → leq less (Kt arr (lo + k)) (Kt arr (lo + i)))) ?_ ?_ ⟨rfl, rfl, Nat.zero_le k, Nat.le_refl k, Nat.le_refl _, fun i hi => absurd hi (Nat.not_lt_zero i), fun i g1 g2 => absurd g2 (Nat.not_lt.mpr g1)⟩) ?_)
  · rintro x ⟨c1, l, u⟩ st2 _ hxk ⟨rfl, e1, hlu, huk, hm, hlow, hup⟩
    obtain rfl : c1 = none := e1
    dsimp only at hlu huk hm hlow hup ⊢
    rcases Nat.lt_or_ge l u with hlt | hge
    · rw [if_neg (by omega)]
      generalize hmid : (l + u) / 2 = mid
      have m1 : l ≤ mid := by omega
      have m2 : mid < u := by omega
      have dm := r'.d (i := lo + mid) (by omega)
      refine wpS_bind (wp_ltAt C (st := setArr st arr) hk r' (by omega) (by omega) ?_)
      cases hw : less (Kt arr (lo + k)) (Kt arr (lo + mid)) with
      | true =>
        have km := C.asy _ _ dk dm hw
        refine wpS_pure ⟨rfl, rfl, m1, by dsimp only; omega, by dsimp only; omega, hlow, fun i g1 g2 => ?_⟩
        rcases Nat.eq_or_lt_of_le g1 with z | z
        · exact z ▸ km
        · exact leq_trans C dk dm (r'.d (by omega)) km (hs' _ _ (Nat.le_add_right ..) (Nat.add_lt_add_left z lo) (by omega))
      | false =>
        refine wpS_pure ⟨rfl, rfl, m2, huk, by dsimp only; omega, fun i g1 => ?_, hup⟩
        rcases Nat.eq_or_lt_of_le (Nat.le_of_lt_succ g1) with z | z
        · exact z ▸ hw
        · exact leq_trans C (r'.d (by omega)) dm dk (hs' _ _ (Nat.le_add_right ..) (Nat.add_lt_add_left z lo) (by omega)) hw
    · rw [if_pos hge]
      obtain rfl : u = l := by omega
      exact wpS_pure ⟨rfl, rfl, huk, hlow, hup⟩
  · rintro ⟨c1, l, u⟩ st2 ⟨e, e1, hlu, huk, hm, hlow, hup⟩
    dsimp only at hlu huk hm hlow hup
    obtain rfl : u = l := by omega
    exact ⟨e, e1, huk, hlow, hup⟩
  · rintro ⟨c1, l, u⟩ st2 ⟨rfl, e1, hlk, hlow, hup⟩
    obtain rfl : c1 = none := e1
    dsimp only at hlk hlow hup
    show wpS _ _ _ _ (moveDown' (lo + k) (lo + l) >>= fun _ => _) _ _
    rw [moveDown'_eq]
    refine wpS_bind (wpS_modify (wpS_pure ⟨rfl, _, rfl, r'.bubble (by omega) (by omega) hn, fun _ i j h1 h2 h3 => ?_⟩))
    rw [kt_bubble hks (by omega), kt_bubble hks (by omega), show lo + k - (lo + k - (lo + l)) = lo + l by omega]
    have low' : ∀ i, lo ≤ i → i < lo + l → leq less (Kt arr i) (Kt arr (lo + k)) := fun i g1 g2 => by
      have z := hlow (i - lo) (by omega)
      rwa [Nat.add_sub_cancel' g1] at z
    have up' : ∀ i, lo + l ≤ i → i < lo + k → leq less (Kt arr (lo + k)) (Kt arr i) := fun i g1 g2 => by
      have z := hup (i - lo) (by omega) (by omega)
      rwa [Nat.add_sub_cancel' (by omega)] at z
    repeat' split
    all_goals first
      | (exfalso; omega)
      | exact hs' _ _ (by omega) (by omega) (by omega)
      | exact low' _ (by omega) (by omega)
      | exact up' _ (by omega) (by omega)
end TS

namespace TS
open PySem PyProof.Rows
variable {M : Model} {A : Around} {E : Value → Shared → Prop} {s : Shared} {kd : SortKind} {D : Keyed → Prop} {less : Keyed → Keyed → Bool} {a0 : Array Keyed} {lo nrem : Nat}
theorem AR.irr (C : Cmp M A E s kd D less) {hi i : Nat} {arr : Array Keyed} (r : AR D a0 lo hi arr) (h : i < a0.size) : leq less (Kt arr i) (Kt arr i) := C.irr _ (r.d h)
theorem Asc.snoc (C : Cmp M A E s kd D less) {hi n : Nat} {arr : Array Keyed} (r : AR D a0 lo hi arr) (h : Asc less arr lo n) (hn : n < a0.size) (hl : lo < n) (h2 : leq less (Kt arr (n - 1)) (Kt arr n)) : Asc less arr lo (n + 1) := fun i j h1 h3 h4 => by
  rcases Nat.lt_or_ge j n with z | z
  · exact h i j h1 h3 z
  · have : j = n := by omega
    subst this
    rcases Nat.lt_or_ge i (j - 1) with z | z
    · exact leq_trans C (r.d (by omega)) (r.d (by omega)) (r.d hn) (h i (j - 1) h1 z (by omega)) h2
    · have : i = j - 1 := by omega
      subst this; exact h2
theorem Dsc.snoc (C : Cmp M A E s kd D less) {hi n : Nat} {arr : Array Keyed} (r : AR D a0 lo hi arr) (h : Dsc less arr lo n) (hn : n < a0.size) (hl : lo < n) (h2 : leq less (Kt arr n) (Kt arr (n - 1))) : Dsc less arr lo (n + 1) := fun i j h1 h3 h4 => by
  rcases Nat.lt_or_ge j n with z | z
  · exact h i j h1 h3 z
  · have : j = n := by omega
    subst this
    rcases Nat.lt_or_ge i (j - 1) with z | z
    · exact leq_trans C (r.d hn) (r.d (by omega)) (r.d (by omega)) h2 (h i (j - 1) h1 z (by omega))
    · have : i = j - 1 := by omega
      subst this; exact h2
/-- a loop that goes on while the row rises, whatever its text is -/
theorem wp_asc (C : Cmp M A E s kd D less) {n0 : Nat} {st : SortSt} {Q : Option (Option Nat) × Nat → SortSt → Prop} {f : Nat → Option (Option Nat) × Nat → SM (ForInStep (Option (Option Nat) × Nat))} (hs : lo + nrem ≤ a0.size) (h1 : 1 ≤ n0) (hn : n0 ≤ nrem) (r : AR D a0 lo (lo + nrem) (arrOf st)) (ha : Asc less (arrOf st) lo (lo + n0))
    (hf : ∀ k c (Q : ForInStep (Option (Option Nat) × Nat) → SortSt → Prop), 1 ≤ c → c < nrem → (less (Kt (arrOf st) (lo + c)) (Kt (arrOf st) (lo + c - 1)) = true → Q (.done (none, c)) st) → (less (Kt (arrOf st) (lo + c)) (Kt (arrOf st) (lo + c - 1)) = false → Q (.yield (none, c + 1)) st) → wpS M A E s (f k (none, c)) Q st)
    (q : ∀ n, n0 ≤ n → n ≤ nrem → Asc less (arrOf st) lo (lo + n) → (n = nrem ∨ less (Kt (arrOf st) (lo + n)) (Kt (arrOf st) (lo + n - 1)) = true) → Q (none, n) st) : wpS M A E s (forIn [n0:nrem] ((none, n0) : Option (Option Nat) × Nat) f) Q st := by
  refine wpS_mono (wpS_forRange (fun k (c : Option (Option Nat) × Nat) st' => st' = st ∧ c = (none, k) ∧ Asc less (arrOf st) lo (lo + k)) (Q := fun c st' => st' = st ∧ ∃ n, c = (none, n) ∧ n0 ≤ n ∧ n ≤ nrem ∧ Asc less (arrOf st) lo (lo + n) ∧ (n = nrem ∨ less (Kt (arrOf st) (lo + n)) (Kt (arrOf st) (lo + n - 1)) = true)) ?_ ?_ ⟨rfl, rfl, ha⟩) ?_
  · rintro k c st' hk1 hk2 ⟨rfl, rfl, ha'⟩
    exact hf k k _ (by omega) hk2 (fun hw => ⟨rfl, k, rfl, hk1, Nat.le_of_lt hk2, ha', .inr hw⟩) fun hw => ⟨rfl, rfl, Asc.snoc C (n := lo + k) r ha' (by omega) (by omega) hw⟩
  · rintro c st' ⟨rfl, rfl, ha'⟩
    rw [show max n0 nrem = nrem by omega] at ha' ⊢
    exact ⟨rfl, nrem, rfl, hn, Nat.le_refl _, ha', .inl rfl⟩
  · rintro c st' ⟨rfl, n, rfl, g1, g2, g3, g4⟩
    exact q n g1 g2 g3 g4
theorem wp_rev {i j : Nat} {st : SortSt} {Q : Unit → SortSt → Prop} (q : Q () (setArr st (mirror (arrOf st) i j ((j - i) / 2)))) : wpS M A E s (reverseSlice' i j) Q st := by
  rw [reverseSlice'_eq]
  exact wpS_modify q
/-- the last e + 1 of a falling row are alike -/
def Eqs (less : Keyed → Keyed → Bool) (arr : Array Keyed) (n e : Nat) : Prop := ∀ i j, n - (e + 1) ≤ i → i < n → n - (e + 1) ≤ j → j < n → leq less (Kt arr i) (Kt arr j)
theorem dsc_rev {n e hi : Nat} {arr : Array Keyed} (r : AR D a0 lo hi arr) (hd : Dsc less arr lo n) (he : Eqs less arr n e) (hn : n ≤ a0.size) (hl : lo + (e + 1) ≤ n) : Dsc less (mirror arr (n - (e + 1)) n ((n - (n - (e + 1))) / 2)) lo n := fun i j h1 h2 h3 => by
  have hz : n ≤ arr.size := by rw [r.size]; exact hn
  rw [kt_mirror hz, kt_mirror hz]
  repeat' split
  all_goals first
    | (exfalso; omega)
    | exact he _ _ (by omega) (by omega) (by omega) (by omega)
    | exact hd _ _ (by omega) (by omega) (by omega)
theorem kt_rev_last {n e hi : Nat} {arr : Array Keyed} (r : AR D a0 lo hi arr) (hn : n < a0.size) : Kt (mirror arr (n - (e + 1)) n ((n - (n - (e + 1))) / 2)) n = Kt arr n := by
  rw [kt_mirror (by rw [r.size]; omega), if_neg (by omega)]
end TS

namespace TS
open PySem PyProof.Rows
variable {M : Model} {A : Around} {E : Value → Shared → Prop} {s : Shared} {kd : SortKind} {D : Keyed → Prop} {less : Keyed → Keyed → Bool} {a0 : Array Keyed} {lo nrem : Nat}
theorem one_eqs (C : Cmp M A E s kd D less) {arr : Array Keyed} {n hi : Nat} (r : AR D a0 lo hi arr) (hn : n ≤ a0.size) (h0 : 0 < n) : Eqs less arr n 0 := fun i j g1 g2 g3 g4 => by
  have e1 : i = n - 1 := by omega
  have e2 : j = n - 1 := by omega
  subst e1; subst e2
  exact C.irr _ (r.d (by omega))
/-- what is told of a row that is found: it rises -/
theorem wp_countRun (C : Cmp M A E s kd D less) {st : SortSt} {Q : Option Nat → SortSt → Prop} (hk : kindOf st = kd) (hs : lo + nrem ≤ a0.size) (h1 : 1 ≤ nrem) (r : AR D a0 lo (lo + nrem) (arrOf st))
    (q : ∀ n arr, 1 ≤ n → n ≤ nrem → AR D a0 lo (lo + nrem) arr → Asc less arr lo (lo + n) → Q (some n) (setArr st arr)) : wpS M A E s (countRun' lo nrem) Q st := by
  rw [countRun'_eq]
  refine wpS_bind (wp_asc C hs (Nat.le_refl _) h1 r (fun i j g1 g2 g3 => by omega) (fun k c Q c1 c2 q1 q2 => ?_) fun n n1 n2 n3 n4 => ?_)
  · dsimp only
    refine wpS_bind (wp_ltAt C hk r (by omega) (by omega) ?_)
    cases hw : less (Kt (arrOf st) (lo + c)) (Kt (arrOf st) (lo + c - 1)) with
    | true => exact wpS_pure (q1 hw)
    | false => exact wpS_pure (q2 hw)
  dsimp only
  by_cases he : (n == nrem) = true
  · rw [if_pos he]
    exact wpS_pure (q n (arrOf st) n1 n2 r n3)
  rw [if_neg he]
  have he : n ≠ nrem := fun z => he (beq_iff_eq.mpr z)
  have hsm : less (Kt (arrOf st) (lo + n)) (Kt (arrOf st) (lo + n - 1)) = true := n4.resolve_left he
  have d1 := r.d (i := lo + n) (by omega)
  have d2 := r.d (i := lo + n - 1) (by omega)
  have hlq := C.asy _ _ d1 d2 hsm
  by_cases hn1 : n > 1
  case' pos =>
    rw [if_pos hn1]
    refine wpS_bind (wp_ltAt C hk r (by omega) (by omega) ?_)
    have d0 := r.d (i := lo) (by omega)
    by_cases hw : less (Kt (arrOf st) lo) (Kt (arrOf st) (lo + n - 1)) = true
    · rw [hw]
      exact wpS_pure (q n (arrOf st) n1 n2 r n3)
    replace hw := Bool.eq_false_iff.mpr hw
    rw [hw]
    -- all are alike
    have hz : lo + n ≤ (arrOf st).size := by rw [r.size]; omega
    have eq : ∀ i j, lo ≤ i → i < lo + n → lo ≤ j → j < lo + n → leq less (Kt (arrOf st) i) (Kt (arrOf st) j) := fun i j g1 g2 g3 g4 => by
      have a1 : leq less (Kt (arrOf st) i) (Kt (arrOf st) (lo + n - 1)) := by
        rcases Nat.lt_or_ge i (lo + n - 1) with z | z
        · exact n3 i (lo + n - 1) g1 z (by omega)
        · have : i = lo + n - 1 := by omega
          subst this; exact C.irr _ d2
      have a2 : leq less (Kt (arrOf st) lo) (Kt (arrOf st) j) := by
        rcases Nat.lt_or_ge lo j with z | z
        · exact n3 lo j (Nat.le_refl _) z g4
        · have : j = lo := by omega
          subst this; exact C.irr _ d0
      exact leq_trans C (r.d (by omega)) d0 (r.d (by omega)) (leq_trans C (r.d (by omega)) d2 d0 a1 hw) a2
    have r1 := r.mirror (i := lo) (j := lo + n) (by omega) (Nat.le_refl _) hs
    have hd0 : Dsc less (mirror (arrOf st) lo (lo + n) ((lo + n - lo) / 2)) lo (lo + n) := fun i j g1 g2 g3 => by
      rw [kt_mirror hz, kt_mirror hz, if_pos (by omega), if_pos (by omega)]
      exact eq _ _ (by omega) (by omega) (by omega) (by omega)
    have hd1 := Dsc.snoc C (n := lo + n) r1 hd0 (by omega) (by omega) (by
      rw [kt_mirror hz, kt_mirror hz, if_neg (by omega), if_pos (by omega)]
      exact leq_trans C d1 d2 (r.d (by omega)) hlq (eq _ _ (by omega) (by omega) (by omega) (by omega)))
    dsimp only
    rw [if_neg Bool.false_ne_true]
    refine wpS_bind (wp_rev ?_)
    generalize mirror (arrOf st) lo (lo + n) ((lo + n - lo) / 2) = arr1 at r1 hd1 ⊢
  case' neg =>
    rw [if_neg hn1]
    obtain rfl : n = 1 := by omega
    have r1 := r
    have hd1 : Dsc less (arrOf st) lo (lo + 1 + 1) := fun i j g1 g2 g3 => by
      have e1 : i = lo := by omega
      have e2 : j = lo + 1 := by omega
      subst e1; subst e2
      exact hlq
    show wpS _ _ _ _ _ _ (setArr st (arrOf st))
    generalize arrOf st = arr1 at r1 hd1 ⊢
  all_goals
    refine wpS_bind (wp_rule (wpS_bind ?_))
    refine wpS_mono (wpS_forRange (fun k (c : Option (Option Nat) × Nat × Nat) st' => c.1 = none ∧ c.2.1 = k ∧ c.2.2 + 1 ≤ k ∧ ∃ arr, st' = setArr st arr ∧ AR D a0 lo (lo + nrem) arr ∧ Dsc less arr lo (lo + k) ∧ Eqs less arr (lo + k) c.2.2)
      (Q := fun c st' => c.1 = none ∧ 1 ≤ c.2.1 ∧ c.2.1 ≤ nrem ∧ c.2.2 + 1 ≤ c.2.1 ∧ ∃ arr, st' = setArr st arr ∧ AR D a0 lo (lo + nrem) arr ∧ Dsc less arr lo (lo + c.2.1) ∧ Eqs less arr (lo + c.2.1) c.2.2) ?_ ?_ ⟨rfl, rfl, by show 0 + 1 ≤ _; omega, arr1, rfl, r1, hd1, one_eqs C r1 (by omega) (by omega)⟩) ?_
    · rintro k ⟨c1, c2, c3⟩ st' hk1 hk2 ⟨e1, e2, e3, arr, rfl, r', hd', he'⟩
      obtain rfl : c1 = none := e1
      obtain rfl : c2 = k := e2
      replace e3 : c3 + 1 ≤ c2 := e3
      replace he' : Eqs less arr (lo + c2) c3 := he'
      dsimp only
      refine wpS_bind (wp_ltAt C (st := setArr st arr) hk r' (by omega) (by omega) ?_)
      have d1 := r'.d (i := lo + c2) (by omega)
      have d2 := r'.d (i := lo + c2 - 1) (by omega)
      cases hw : less (Kt arr (lo + c2)) (Kt arr (lo + c2 - 1)) with
      | true =>
        dsimp only
        rw [if_pos rfl]
        have hlq := C.asy _ _ d1 d2 hw
        by_cases h0 : c3 > 0
        · rw [if_pos h0]
          have r2 := r'.mirror (i := lo + c2 - (c3 + 1)) (j := lo + c2) (by omega) (by omega) hs
          have hd2 := dsc_rev r' hd' he' (by omega) (by omega)
          refine wpS_bind (wp_rev (wpS_pure ⟨rfl, rfl, by show 0 + 1 ≤ c2 + 1; omega, _, rfl, r2, Dsc.snoc C (n := lo + c2) r2 hd2 (by omega) (by omega) ?_, one_eqs C r2 (by omega) (by omega)⟩))
          rw [kt_rev_last r' (by omega), kt_mirror (by rw [r'.size]; omega), if_pos (by omega)]
          -- all of the last ones are alike
          exact leq_trans C d1 d2 (r'.d (by omega)) hlq (he' _ _ (by omega) (by omega) (by omega) (by omega))
        · rw [if_neg h0]
          exact wpS_pure ⟨rfl, rfl, by show 0 + 1 ≤ c2 + 1; omega, arr, rfl, r', Dsc.snoc C (n := lo + c2) r' hd' (by omega) (by omega) hlq, one_eqs C r' (by omega) (by omega)⟩
      | false =>
        dsimp only
        rw [if_neg Bool.false_ne_true]
        refine wpS_bind (wp_ltAt C (st := setArr st arr) hk r' (by omega) (by omega) ?_)
        cases hv : less (Kt arr (lo + c2 - 1)) (Kt arr (lo + c2)) with
        | true => exact wpS_pure ⟨rfl, by show 1 ≤ c2; omega, Nat.le_of_lt hk2, e3, arr, rfl, r', hd', he'⟩
        | false =>
          refine wpS_pure ⟨rfl, rfl, by show c3 + 1 + 1 ≤ c2 + 1; omega, arr, rfl, r', Dsc.snoc C (n := lo + c2) r' hd' (by omega) (by omega) hv, fun i j g1 g2 g3 g4 => ?_⟩
          replace g1 : lo + (c2 + 1) - (c3 + 1 + 1) ≤ i := g1
          replace g3 : lo + (c2 + 1) - (c3 + 1 + 1) ≤ j := g3
          have toL : ∀ i, lo + (c2 + 1) - (c3 + 1 + 1) ≤ i → i < lo + c2 → leq less (Kt arr i) (Kt arr (lo + c2 - 1)) ∧ leq less (Kt arr (lo + c2 - 1)) (Kt arr i) := fun i z1 z2 => ⟨he' _ _ (by omega) z2 (by omega) (by omega), he' _ _ (by omega) (by omega) (by omega) z2⟩
          rcases Nat.lt_or_ge i (lo + c2) with z | z
          · rcases Nat.lt_or_ge j (lo + c2) with y | y
            · exact he' _ _ (by omega) z (by omega) y
            · obtain rfl : j = lo + c2 := by omega
              exact leq_trans C (r'.d (by omega)) d2 d1 (toL i g1 z).1 hw
          · obtain rfl : i = lo + c2 := by omega
            rcases Nat.lt_or_ge j (lo + c2) with y | y
            · exact leq_trans C d1 d2 (r'.d (by omega)) hv (toL j g3 y).2
            · obtain rfl : j = lo + c2 := by omega
              exact C.irr _ d1
    · rintro ⟨c1, c2, c3⟩ st' ⟨e1, e2, e3, arr, e, r', hd', he'⟩
      replace e2 : c2 = _ := e2
      obtain rfl : c2 = nrem := by omega
      rw [Nat.max_eq_right (by omega)] at hd' he' e3
      exact ⟨e1, by show 1 ≤ c2; omega, Nat.le_refl _, e3, arr, e, r', hd', he'⟩
    rintro ⟨c1, c2, c3⟩ st' ⟨e1, g1, g2, g3, arr, rfl, r', hd', he'⟩
    obtain rfl : c1 = none := e1
    replace g1 : 1 ≤ c2 := g1
    replace g2 : c2 ≤ nrem := g2
    replace g3 : c3 + 1 ≤ c2 := g3
    dsimp only at hd' he' ⊢
    by_cases h3 : c3 > 0
    case' pos =>
      rw [if_pos h3]
      have r2 := r'.mirror (i := lo + c2 - (c3 + 1)) (j := lo + c2) (by omega) (by omega) hs
      have hd2 := dsc_rev r' hd' he' (by omega) (by omega)
      refine wpS_bind (wp_rev ?_)
      show wpS _ _ _ _ _ _ (setArr st (mirror arr (lo + c2 - (c3 + 1)) (lo + c2) ((lo + c2 - (lo + c2 - (c3 + 1))) / 2)))
      generalize mirror arr (lo + c2 - (c3 + 1)) (lo + c2) ((lo + c2 - (lo + c2 - (c3 + 1))) / 2) = arr2 at r2 hd2 ⊢
    case' neg =>
      rw [if_neg h3]
      have r2 := r'
      have hd2 := hd'
      generalize arr = arr2 at r2 hd2 ⊢
    all_goals
      have hz : lo + c2 ≤ arr2.size := by rw [r2.size]; omega
      have r3 := r2.mirror (i := lo) (j := lo + c2) (by omega) (Nat.le_refl _) hs
      have as3 : Asc less (mirror arr2 lo (lo + c2) ((lo + c2 - lo) / 2)) lo (lo + c2) := fun i j g1 g2 g3 => by
        rw [kt_mirror hz, kt_mirror hz, if_pos (by omega), if_pos (by omega)]
        exact hd2 _ _ (by omega) (by omega) (by omega)
      refine wpS_bind (wp_rev ?_)
      show wpS _ _ _ _ _ _ (setArr st (mirror arr2 lo (lo + c2) ((lo + c2 - lo) / 2)))
      generalize mirror arr2 lo (lo + c2) ((lo + c2 - lo) / 2) = arr3 at r3 as3 ⊢
      refine wpS_bind (wp_asc C (st := setArr st arr3) hs g1 g2 r3 as3 (fun k c Q c1 c2 q1 q2 => ?_) fun m m1 m2 m3 _ => wpS_pure (q m arr3 (by omega) m2 r3 m3))
      dsimp only
      refine wpS_bind (wp_ltAt C (st := setArr st arr3) hk r3 (by omega) (by omega) ?_)
      cases hw : less (Kt arr3 (lo + c)) (Kt arr3 (lo + c - 1)) with
      | true => exact wpS_pure (q1 hw)
      | false => exact wpS_pure (q2 hw)
end TS

namespace TS
open PySem PyProof.Rows
end TS

namespace TS
open PySem PyProof.Rows
variable {M : Model} {A : Around} {E : Value → Shared → Prop} {s : Shared} {kd : SortKind} {D : Keyed → Prop} {less : Keyed → Keyed → Bool}
theorem seg_at {L P Z R : List Keyed} {sa i : Nat} (h : L = P ++ Z ++ R) (hp : P.length = sa) (hi : i < Z.length) : L[sa + i]? = Z[i]? := by
  rw [h, List.append_assoc, List.getElem?_append_right (by omega), List.getElem?_append_left (by omega), hp, Nat.add_sub_cancel_left]
theorem asc_of_seg {arr : Array Keyed} {P Z R : List Keyed} {sa n : Nat} (h : arr.toList = P ++ Z ++ R) (hp : P.length = sa) (hn : Z.length = n) (hs : Z.Pairwise (leq less)) : Asc less arr sa (sa + n) := fun i j h1 h2 h3 => by
  have ei : arr[i]? = Z[i - sa]? := by rw [← Array.getElem?_toList, ← seg_at h hp (i := i - sa) (by omega)]; congr 1; omega
  have ej : arr[j]? = Z[j - sa]? := by rw [← Array.getElem?_toList, ← seg_at h hp (i := j - sa) (by omega)]; congr 1; omega
  have gi : Z[i - sa]? = some (Kt arr i) := by unfold Kt; rw [ei, List.getElem?_eq_getElem (by omega)]; rfl
  have gj : Z[j - sa]? = some (Kt arr j) := by unfold Kt; rw [ej, List.getElem?_eq_getElem (by omega)]; rfl
  exact pw_get hs (by omega) gi gj
theorem seg_of_asc {arr : Array Keyed} {sa n : Nat} (ha : Asc less arr sa (sa + n)) (hs : sa + n ≤ arr.size) : ((arr.toList.drop sa).take n).Pairwise (leq less) := by
  rw [List.pairwise_iff_getElem]
  intro i j hi hj hij
  rw [List.length_take, List.length_drop, Array.length_toList] at hi hj
  have g : ∀ k, (hk : k < n) → (h2 : k < ((arr.toList.drop sa).take n).length) → ((arr.toList.drop sa).take n)[k] = Kt arr (sa + k) := fun k hk h2 => by
    rw [List.getElem_take, List.getElem_drop]
    unfold Kt
    rw [Array.getElem?_eq_getElem (by omega)]
    rfl
  rw [g i (by omega), g j (by omega)]
  exact ha _ _ (by omega) (by omega) (by omega)
theorem wp_mergeI (C : Cmp M A E s kd D less) {i sa na nb sb pw pw2 : Nat} {st : SortSt} {Q : Bool → SortSt → Prop} (hk : kindOf st = kd) (hf : failedOf st = none) (h1 : (pendingOf st)[i]? = some (sa, na, pw)) (h2 : (pendingOf st)[i + 1]? = some (sb, nb, pw2)) (hsb : sb = sa + na) (na0 : 0 < na) (nb0 : 0 < nb)
    (hs : sa + na + nb ≤ (arrOf st).size) (dom : ∀ x ∈ (arrOf st).toList, D x) (ha : Asc less (arrOf st) sa (sa + na)) (hb : Asc less (arrOf st) (sa + na) (sa + na + nb))
    (q : ∀ (arr' : Array Keyed) (g : Nat), AR D (arrOf st) sa (sa + na + nb) arr' → Asc less arr' sa (sa + na + nb) → Q true (SortSt.mk' (kindOf st) arr' (((pendingOf st).setIfInBounds i (sa, na + nb, pw)).eraseIdxIfInBounds (i + 1)) g none)) : wpS M A E s (mergeAt' i) Q st := by
  have hlen : (arrOf st).toList.length = (arrOf st).size := Array.length_toList
  have hL : (arrOf st).toList = (arrOf st).toList.take sa ++ ((arrOf st).toList.drop sa).take na ++ ((arrOf st).toList.drop (sa + na)).take nb ++ (arrOf st).toList.drop (sa + na + nb) := by
    have e1 := List.take_append_drop sa (arrOf st).toList
    have e2 := List.take_append_drop na ((arrOf st).toList.drop sa)
    have e3 := List.take_append_drop nb ((arrOf st).toList.drop (sa + na))
    rw [List.drop_drop] at e2 e3
    rw [List.append_assoc, List.append_assoc, e3, e2, e1]
  have l1 : ((arrOf st).toList.take sa).length = sa := by rw [List.length_take]; omega
  have l2 : (((arrOf st).toList.drop sa).take na).length = na := by rw [List.length_take, List.length_drop]; omega
  have l3 : (((arrOf st).toList.drop (sa + na)).take nb).length = nb := by rw [List.length_take, List.length_drop]; omega
  refine wp_mergeAt C hk hf h1 h2 hL l1 l2 l3 hsb na0 nb0 (seg_of_asc ha (by omega)) (seg_of_asc hb hs) (fun x hx => dom x (List.mem_of_mem_drop (List.mem_of_mem_take hx))) (fun x hx => dom x (List.mem_of_mem_drop (List.mem_of_mem_take hx))) fun Z arr' g hp hz he => ?_
  have lz : Z.length = na + nb := by rw [hp.length_eq, List.length_append, l2, l3]
  refine q arr' g ⟨Array.perm_iff_toList_perm.mpr ?_, fun k hk => ?_, dom⟩ ?_
  · rw [he]
    conv => rhs; rw [hL]
    refine List.Perm.append_right _ ?_
    rw [List.append_assoc]
    exact List.Perm.append_left _ hp
  · rw [← Array.getElem?_toList, ← Array.getElem?_toList, he]
    rcases hk with hk | hk
    · rw [List.append_assoc, List.getElem?_append_left (by omega), List.getElem?_take_of_lt hk]
    · rw [List.getElem?_append_right (by rw [List.length_append]; omega), List.getElem?_drop]
      congr 1
      rw [List.length_append]; omega
  · have := asc_of_seg he l1 lz hz
    rw [← Nat.add_assoc] at this
    exact this
/-- the runs that wait, one behind the other -/
def Runs (less : Keyed → Keyed → Bool) (arr : Array Keyed) : List (Nat × Nat × Nat) → Nat → Nat → Prop
  | [], b, e => b = e
  | p :: r, b, e => p.1 = b ∧ 0 < p.2.1 ∧ Asc less arr b (b + p.2.1) ∧ Runs less arr r (b + p.2.1) e
theorem Runs.le {arr : Array Keyed} : ∀ {l : List (Nat × Nat × Nat)} {b e : Nat}, Runs less arr l b e → b + l.length ≤ e
  | [], b, e, h => by have h : b = e := h; simp [h]
  | p :: r, b, e, h => by
    have := Runs.le h.2.2.2
    have := h.2.1
    rw [List.length_cons]; omega
theorem Runs.app {arr : Array Keyed} : ∀ {l r : List (Nat × Nat × Nat)} {b e : Nat}, Runs less arr (l ++ r) b e ↔ ∃ m, Runs less arr l b m ∧ Runs less arr r m e
  | [], r, b, e => by
    constructor
    · exact fun h => ⟨b, rfl, h⟩
    · rintro ⟨m, h1, h2⟩
      have h1 : b = m := h1
      subst h1; exact h2
  | p :: l, r, b, e => by
    constructor
    · rintro ⟨h1, h2, h3, h4⟩
      obtain ⟨m, a, c⟩ := Runs.app.mp h4
      exact ⟨m, ⟨h1, h2, h3, a⟩, c⟩
    · rintro ⟨m, ⟨h1, h2, h3, a⟩, c⟩
      exact ⟨h1, h2, h3, Runs.app.mpr ⟨m, a, c⟩⟩
theorem Asc.same {arr arr' : Array Keyed} {b e : Nat} (h : Asc less arr b e) (hs : ∀ k, b ≤ k → k < e → arr'[k]? = arr[k]?) : Asc less arr' b e := fun i j h1 h2 h3 => by
  rw [kt_congr (hs i h1 (by omega)), kt_congr (hs j (by omega) h3)]
  exact h i j h1 h2 h3
theorem Runs.same {arr arr' : Array Keyed} : ∀ {l : List (Nat × Nat × Nat)} {b e : Nat}, Runs less arr l b e → (∀ k, b ≤ k → k < e → arr'[k]? = arr[k]?) → Runs less arr' l b e
  | [], b, e, h, _ => h
  | p :: r, b, e, h, hs => by
    have hl := Runs.le h.2.2.2
    exact ⟨h.1, h.2.1, h.2.2.1.same fun k h1 h2 => hs k h1 (by omega), h.2.2.2.same fun k h1 h2 => hs k (by omega) h2⟩
theorem Runs.pows {arr : Array Keyed} : ∀ {l r : List (Nat × Nat × Nat)} {b e : Nat}, Runs less arr l b e → l.map (fun p => (p.1, p.2.1)) = r.map (fun p => (p.1, p.2.1)) → Runs less arr r b e
  | [], [], b, e, h, _ => h
  | [], _ :: _, _, _, _, e => by simp at e
  | _ :: _, [], _, _, _, e => by simp at e
  | p :: l, p' :: r, b, e, h, eq => by
    simp only [List.map_cons, List.cons.injEq, Prod.mk.injEq] at eq
    obtain ⟨⟨e1, e2⟩, e3⟩ := eq
    refine ⟨e1 ▸ h.1, e2 ▸ h.2.1, e2 ▸ h.2.2.1, ?_⟩
    have := h.2.2.2.pows e3
    rw [e2] at this
    exact this
structure SI (kd : SortKind) (D : Keyed → Prop) (less : Keyed → Keyed → Bool) (a0 : Array Keyed) (e : Nat) (st : SortSt) : Prop where
  kind : kindOf st = kd
  fail : failedOf st = none
  perm : (arrOf st).Perm a0
  runs : Runs less (arrOf st) (pendingOf st).toList 0 e
theorem pend_list {p : Array (Nat × Nat × Nat)} {i : Nat} {x y z : Nat × Nat × Nat} (h1 : p[i]? = some x) (h2 : p[i + 1]? = some y) : ∃ pre post, p.toList = pre ++ x :: y :: post ∧ pre.length = i ∧ ((p.setIfInBounds i z).eraseIdxIfInBounds (i + 1)).toList = pre ++ z :: post := by
  have l2 : i + 1 < p.size := (Array.getElem?_eq_some_iff.mp h2).1
  rw [← Array.getElem?_toList] at h1 h2
  refine ⟨p.toList.take i, p.toList.drop (i + 2), ?_, by rw [List.length_take, Array.length_toList]; omega, ?_⟩
  · have e1 := List.take_append_drop i p.toList
    obtain ⟨g1, f1⟩ := List.getElem?_eq_some_iff.mp h1
    obtain ⟨g2, f2⟩ := List.getElem?_eq_some_iff.mp h2
    rw [List.drop_eq_getElem_cons g1, f1, List.drop_eq_getElem_cons g2, f2] at e1
    exact e1.symm
  · have e : ((p.setIfInBounds i z).eraseIdxIfInBounds (i + 1)).toList = (p.toList.set i z).eraseIdx (i + 1) := by
      rw [Array.eraseIdxIfInBounds, dif_pos (by rw [Array.size_setIfInBounds]; exact l2), Array.toList_eraseIdx, Array.toList_setIfInBounds]
    rw [e]
    refine List.ext_getElem? fun k => ?_
    rw [List.getElem?_eraseIdx]
    have lt : (p.toList.take i).length = i := by rw [List.length_take, Array.length_toList]; omega
    rcases Nat.lt_or_ge k i with hk | hk
    · rw [if_pos (by omega), List.getElem?_set_ne (by omega), List.getElem?_append_left (by omega), List.getElem?_take_of_lt hk]
    · rw [List.getElem?_append_right (by omega), lt]
      rcases Nat.lt_or_ge i k with hk2 | hk2
      · rw [if_neg (by omega), List.getElem?_set_ne (by omega)]
        obtain ⟨d, rfl⟩ : ∃ d, k = i + 1 + d := ⟨k - (i + 1), by omega⟩
        rw [show i + 1 + d - i = d + 1 by omega, List.getElem?_cons_succ, List.getElem?_drop]
        congr 1
        omega
      · have : k = i := by omega
        subst this
        rw [if_pos (by omega), Nat.sub_self, List.getElem?_cons_zero, List.getElem?_set_self (by rw [Array.length_toList]; omega)]
theorem wp_merge (C : Cmp M A E s kd D less) {i e : Nat} {st : SortSt} {a0 : Array Keyed} {Q : Bool → SortSt → Prop} (dom : ∀ x ∈ a0.toList, D x) (I : SI kd D less a0 e st) (he : e ≤ a0.size) (hi : i + 1 < (pendingOf st).size)
    (q : ∀ st', SI kd D less a0 e st' → (pendingOf st').size + 1 = (pendingOf st).size → (∀ k, e ≤ k → (arrOf st')[k]? = (arrOf st)[k]?) → Q true st') : wpS M A E s (mergeAt' i) Q st := by
  obtain ⟨⟨sa, na, pw⟩, hx⟩ : ∃ x, (pendingOf st)[i]? = some x := ⟨_, Array.getElem?_eq_getElem (by omega)⟩
  obtain ⟨⟨sb, nb, pw2⟩, hy⟩ : ∃ x, (pendingOf st)[i + 1]? = some x := ⟨_, Array.getElem?_eq_getElem hi⟩
  obtain ⟨pre, post, h1, h2, h3⟩ := pend_list (z := (sa, na + nb, pw)) hx hy
  have R := I.runs
  rw [h1, Runs.app] at R
  obtain ⟨m, R1, R2⟩ := R
  obtain ⟨e1, p1, a1, e2, p2, a2, R3⟩ := R2
  have e1 : sa = m := e1
  have e2 : sb = m + na := e2
  have p1 : 0 < na := p1
  have p2 : 0 < nb := p2
  have a1 : Asc less (arrOf st) m (m + na) := a1
  have a2 : Asc less (arrOf st) (m + na) (m + na + nb) := a2
  have R3 : Runs less (arrOf st) post (m + na + nb) e := R3
  subst e1
  have l3 := R3.le
  have sz := I.perm.size_eq
  refine wp_mergeI C I.kind I.fail hx hy e2 p1 p2 (by omega) (fun x hx => dom x ((Array.perm_iff_toList_perm.mp I.perm).mem_iff.mp hx)) a1 a2 fun arr' g r ha => ?_
  refine q _ ⟨I.kind, rfl, r.perm.trans I.perm, ?_⟩ ?_ fun k hk => r.out k (.inr (by omega))
  · show Runs less arr' (((pendingOf st).setIfInBounds i (sa, na + nb, pw)).eraseIdxIfInBounds (i + 1)).toList 0 e
    rw [h3, Runs.app]
    have l1 := R1.le
    refine ⟨sa, R1.same fun k _ hk => r.out k (.inl hk), rfl, by show 0 < na + nb; omega, ?_, ?_⟩
    · show Asc less arr' sa (sa + (na + nb))
      rw [← Nat.add_assoc]; exact ha
    · show Runs less arr' post (sa + (na + nb)) e
      rw [← Nat.add_assoc]
      exact R3.same fun k hk _ => r.out k (.inr hk)
  · show (((pendingOf st).setIfInBounds i (sa, na + nb, pw)).eraseIdxIfInBounds (i + 1)).size + 1 = _
    rw [← Array.length_toList, h3, ← Array.length_toList (xs := pendingOf st), h1, List.length_append, List.length_append, List.length_cons, List.length_cons, List.length_cons]
    omega
end TS

namespace TS
open PySem PyProof.Rows
variable {M : Model} {A : Around} {E : Value → Shared → Prop} {s : Shared} {kd : SortKind} {D : Keyed → Prop} {less : Keyed → Keyed → Bool} {a0 : Array Keyed}
theorem modify_list {p : Array (Nat × Nat × Nat)} {i pw : Nat} : (p.modify i fun x => match x with | (st, len, _) => (st, len, pw)).toList.map (fun p => (p.1, p.2.1)) = p.toList.map (fun p => (p.1, p.2.1)) := by
  refine List.ext_getElem? fun k => ?_
  rw [List.getElem?_map, List.getElem?_map, Array.getElem?_toList, Array.getElem?_toList, Array.getElem?_modify]
  split
  · cases p[k]? with
    | none => rfl
    | some x => rfl
  · rfl
theorem SI.push {lo n : Nat} {st : SortSt} (I : SI kd D less a0 lo st) (h0 : 0 < n) (ha : Asc less (arrOf st) lo (lo + n)) : SI kd D less a0 (lo + n) (setPending st ((pendingOf st).push (lo, n, 0))) := by
  refine ⟨I.kind, I.fail, I.perm, ?_⟩
  show Runs less (arrOf st) ((pendingOf st).push (lo, n, 0)).toList 0 (lo + n)
  rw [Array.toList_push, Runs.app]
  exact ⟨lo, I.runs, rfl, h0, ha, rfl⟩
theorem wp_sortRuns (C : Cmp M A E s kd D less) {st : SortSt} {Q : Unit → SortSt → Prop} (hk : kindOf st = kd) (hf : failedOf st = none) (hp : pendingOf st = #[]) (dom : ∀ x ∈ (arrOf st).toList, D x) (h2 : 2 ≤ (arrOf st).size)
    (q : ∀ st', (arrOf st').Perm (arrOf st) → failedOf st' = none → (arrOf st').toList.Pairwise (leq less) → Q () st') : wpS M A E s sortRuns' Q st := by
  rw [sortRuns'_eq]
  refine wpS_bind (wpS_get ?_)
  generalize ha0 : arrOf st = a0 at dom h2 q
  have I0 : SI kd D less a0 0 st := ⟨hk, hf, by rw [ha0], by rw [hp]; rfl⟩
  refine wpS_bind (wpS_mono (wpS_forRange (fun j (c : Option Unit × Nat) st' => c.1 = none ∧ SI kd D less a0 c.2 st' ∧ j ≤ c.2 ∧ c.2 ≤ a0.size) (Q := fun c st' => c.1 = none ∧ SI kd D less a0 a0.size st') ?_ ?_ ⟨rfl, I0, Nat.le_refl _, Nat.zero_le _⟩) ?_)
  · rintro j ⟨c1, lo⟩ st' _ hj ⟨e1, I', g1, g2⟩
    obtain rfl : c1 = none := e1
    have g1 : j ≤ lo := g1
    have g2 : lo ≤ a0.size := g2
    dsimp only
    by_cases h : lo ≥ a0.size
    · rw [if_pos h]
      have : lo = a0.size := by omega
      exact wpS_pure ⟨rfl, this ▸ I'⟩
    rw [if_neg h]
    have q2 : ∀ n st', 0 < n → lo + n ≤ a0.size → SI kd D less a0 (lo + n) st' → (none : Option Unit) = none ∧ SI kd D less a0 (lo + n) st' ∧ j + 1 ≤ lo + n ∧ lo + n ≤ a0.size := fun n st' h0 hn I'' => ⟨rfl, I'', by omega, hn⟩
    have r0 : AR D (arrOf st') lo (lo + (a0.size - lo)) (arrOf st') := ⟨Array.Perm.refl _, fun _ _ => rfl, fun x hx => dom x ((Array.perm_iff_toList_perm.mp I'.perm).mem_iff.mp hx)⟩
    have sz := I'.perm.size_eq
    refine wpS_bind (wp_countRun C I'.kind (by rw [sz]; omega) (by omega) r0 fun n arr n1 n2 r ha => ?_)
    dsimp only
    by_cases hm : n < minRun' a0.size a0.size 0
    case' pos =>
      rw [if_pos hm]
      generalize minRun' a0.size a0.size 0 = mr at hm ⊢
      have rr : AR D arr lo (lo + min (a0.size - lo) mr) arr := ⟨Array.Perm.refl _, fun _ _ => rfl, fun x hx => r0.dom x ((Array.perm_iff_toList_perm.mp r.perm).mem_iff.mp hx)⟩
      refine wpS_bind (wp_rule (wpS_bind (wp_bin C (st := setArr st' arr) (a0 := arr) (n := min (a0.size - lo) mr) (ok := n) I'.kind (by rw [r.size, sz]; omega) (by omega) rr ha fun arr2 r2 ha2 => ?_)))
      rw [if_neg (show ¬ (!true) = true by decide)]
      have I2 : SI kd D less a0 lo (setArr st' arr2) := ⟨I'.kind, I'.fail, r2.perm.trans (r.perm.trans I'.perm), I'.runs.same fun k _ hk => (r2.out k (.inl hk)).trans (r.out k (.inl hk))⟩
      have hz : 0 < min (a0.size - lo) mr := by omega
      have hz2 : lo + min (a0.size - lo) mr ≤ a0.size := by omega
      generalize min (a0.size - lo) mr = nn at ha2 hz hz2 ⊢
    case' neg =>
      rw [if_neg hm]
      have I2 : SI kd D less a0 lo (setArr st' arr) := ⟨I'.kind, I'.fail, r.perm.trans I'.perm, I'.runs.same fun k _ hk => r.out k (.inl hk)⟩
      have hz : 0 < n := n1
      have hz2 : lo + n ≤ a0.size := by omega
      have ha2 := ha
      generalize n = nn at ha2 hz hz2 ⊢
      generalize arr = arr2 at ha2 I2 ⊢
    all_goals
      replace ha2 : Asc less (arrOf (setArr st' arr2)) lo (lo + nn) := ha2
      generalize setArr st' arr2 = s2 at I2 ha2 ⊢
      refine wpS_bind (wpS_get ?_)
      generalize hb : (pendingOf s2).back? = bk
      cases bk with
      | none => exact wpS_bind (wpS_modify (wpS_pure (q2 _ _ hz hz2 (I2.push hz ha2))))
      | some p =>
        obtain ⟨s1, n1, _⟩ := p
        dsimp only
        refine wpS_bind (wpS_mono (wpS_forRange (fun _ (c : Option Unit × Unit) st' => c.1 = none ∧ SI kd D less a0 lo st' ∧ Asc less (arrOf st') lo (lo + nn)) (Q := fun c st' => c.1 = none ∧ SI kd D less a0 lo st' ∧ Asc less (arrOf st') lo (lo + nn)) ?_ ?_ ⟨rfl, I2, ha2⟩) ?_)
        · rintro j ⟨c1, c2⟩ s3 _ _ ⟨e1, I3, ha3⟩
          refine wpS_bind (wpS_get ?_)
          by_cases h : (pendingOf s3).size > 1
          · rw [if_pos h]
            obtain ⟨⟨x, y, z⟩, hx⟩ : ∃ x, (pendingOf s3)[(pendingOf s3).size - 2]? = some x := ⟨_, Array.getElem?_eq_getElem (by omega)⟩
            rw [hx]
            dsimp only
            split
            · exact wpS_pure ⟨rfl, I3, ha3⟩
            · refine wpS_bind (wp_merge C dom I3 (by omega) (by omega) fun s4 I4 hs4 hk4 => ?_)
              exact wpS_pure ⟨rfl, I4, ha3.same fun k h1 _ => hk4 k h1⟩
          · rw [if_neg h]
            exact wpS_pure ⟨rfl, I3, ha3⟩
        · exact fun c st' h => h
        · rintro ⟨c1, c2⟩ s3 ⟨e1, I3, ha3⟩
          obtain rfl : c1 = none := e1
          dsimp only
          refine wpS_bind (wpS_modify (wpS_bind (wpS_modify (wpS_pure (q2 _ _ hz hz2 ?_)))))
          exact SI.push ⟨I3.kind, I3.fail, I3.perm, I3.runs.pows modify_list.symm⟩ hz ha3
  · rintro ⟨c1, lo⟩ st' ⟨e1, I', g1, g2⟩
    have g1 : max 0 a0.size ≤ lo := g1
    have g2 : lo ≤ a0.size := g2
    have : lo = a0.size := by omega
    exact ⟨e1, this ▸ I'⟩
  · rintro ⟨c1, lo⟩ st' ⟨e1, I'⟩
    obtain rfl : c1 = none := e1
    dsimp only
    have hl := I'.runs.le
    rw [Nat.zero_add, Array.length_toList] at hl
    refine wpS_bind (wpS_mono (wpS_forRange (fun j (c : Option Unit × Unit) st' => c.1 = none ∧ SI kd D less a0 a0.size st' ∧ (pendingOf st').size + j ≤ a0.size + 1) (Q := fun c st' => c.1 = none ∧ SI kd D less a0 a0.size st' ∧ (pendingOf st').size ≤ 1) ?_ ?_ ⟨rfl, I', by omega⟩) ?_)
    · rintro j ⟨c1, c2⟩ st'' _ hj ⟨e1, I'', g⟩
      refine wpS_bind (wpS_get ?_)
      by_cases h : (pendingOf st'').size ≤ 1
      · rw [if_pos h]
        exact wpS_pure ⟨rfl, I'', h⟩
      · rw [if_neg h]
        refine wpS_bind (wp_merge C dom I'' (Nat.le_refl _) ?_ fun s3 I3 hs hk => ?_)
        · (repeat' split) <;> omega
        · exact wpS_pure ⟨rfl, I3, by omega⟩
    · rintro ⟨c1, c2⟩ st'' ⟨e1, I'', g⟩
      exact ⟨e1, I'', by omega⟩
    · rintro ⟨c1, c2⟩ st'' ⟨e1, I'', g⟩
      obtain rfl : c1 = none := e1
      dsimp only
      refine wpS_pure (q st'' I''.perm I''.fail ?_)
      have R := I''.runs
      have sz := I''.perm.size_eq
      -- one run is left
      cases hpl : (pendingOf st'').toList with
      | nil =>
        rw [hpl] at R
        have R : 0 = a0.size := R
        omega
      | cons p r =>
        have hr : r = [] := by
          have : (pendingOf st'').toList.length ≤ 1 := by rw [Array.length_toList]; exact g
          rw [hpl, List.length_cons] at this
          exact List.length_eq_zero_iff.mp (by omega)
        subst hr
        rw [hpl] at R
        obtain ⟨_, _, ha, R⟩ := R
        have R : 0 + p.2.1 = a0.size := R
        have := seg_of_asc (sa := 0) (n := a0.size) (arr := arrOf st'') (less := less) (by rw [← R, Nat.zero_add]; rw [Nat.zero_add] at ha; exact fun i j h1 h2 h3 => ha i j h1 h2 (by omega)) (by omega)
        rw [List.drop_zero, List.take_of_length_le (by rw [Array.length_toList]; omega)] at this
        exact this
end TS

namespace TS
open PySem PyProof.Rows
open HT (lexLt lexLt_cons lexLt_nil_nil lexLt_nil_cons lexLt_cons_nil)
theorem lex_irr : ∀ x : List Int, lexLt x x = false
  | [] => rfl
  | x :: xs => by rw [lexLt_cons, if_pos rfl, lex_irr xs]
theorem lex_asy : ∀ x y : List Int, lexLt x y = true → lexLt y x = false
  | [], [], h => by cases h
  | [], y :: ys, _ => rfl
  | x :: xs, [], h => by cases h
  | x :: xs, y :: ys, h => by
    rw [lexLt_cons] at h ⊢
    by_cases e : x = y
    · subst e
      rw [if_pos rfl] at h ⊢
      exact lex_asy xs ys h
    · rw [if_neg e] at h
      rw [if_neg (fun z => e z.symm)]
      have := of_decide_eq_true h
      exact decide_eq_false (by omega)
theorem lex_tr : ∀ x y z : List Int, lexLt y x = false → lexLt z y = false → lexLt z x = false
  | [], y, [], _, _ => rfl
  | [], [], z :: zs, h1, h2 => rfl
  | [], y :: ys, z :: zs, h1, h2 => rfl
  | x :: xs, [], z, h1, h2 => by cases h1
  | x :: xs, y :: ys, [], h1, h2 => by cases h2
  | x :: xs, y :: ys, z :: zs, h1, h2 => by
    rw [lexLt_cons] at h1 h2 ⊢
    by_cases e : y = x
    · subst e
      rw [if_pos rfl] at h1
      by_cases e2 : z = y
      · subst e2
        rw [if_pos rfl] at h2 ⊢
        exact lex_tr xs ys zs h1 h2
      · rw [if_neg e2] at h2 ⊢
        exact h2
    · rw [if_neg e] at h1
      have h1 := of_decide_eq_false h1
      by_cases e2 : z = y
      · subst e2
        rw [if_neg e]
        exact decide_eq_false h1
      · rw [if_neg e2] at h2
        have h2 := of_decide_eq_false h2
        rw [if_neg (by omega)]
        exact decide_eq_false (by omega)
theorem lex_anti : ∀ x y : List Int, lexLt x y = false → lexLt y x = false → x = y
  | [], [], _, _ => rfl
  | [], y :: ys, h, _ => by cases h
  | x :: xs, [], _, h => by cases h
  | x :: xs, y :: ys, h1, h2 => by
    rw [lexLt_cons] at h1 h2
    by_cases e : x = y
    · subst e
      rw [if_pos rfl] at h1 h2
      rw [lex_anti xs ys h1 h2]
    · rw [if_neg e] at h1
      rw [if_neg (fun z => e z.symm)] at h2
      have := of_decide_eq_false h1
      have := of_decide_eq_false h2
      omega
/-- the ints of a tuple -/
def tupK (h : Heap) (v : Value) (ns : List Int) : Prop := ∃ a items, v = .ref a ∧ IsTup h a items ∧ IntsAre items.toList ns
variable {prog : Program} {w : World} {A : Around} {E : Value → Shared → Prop} {s : Shared}
local macro_rules | `(tactic| walk_at "open keyLt") => do
  let n := Lean.mkIdent (.str (.str (.str (.num (.str (.str (.str (.str (.str .anonymous "_private") "PySem") "Builtin") "List") "W1All") 0) "PySem") "Builtin") "keyLt")
  `(tactic| delta $n:ident)
end TS

namespace TS
open PySem PyProof.Rows
open HT (lexLt lexLt_cons lexLt_nil_nil lexLt_nil_cons lexLt_cons_nil)
variable {prog : Program} {w : World} {A : Around} {E : Value → Shared → Prop} {s : Shared}
def DT (h : Heap) (p : Keyed) : Prop := p.1 = p.2 ∧ ∃ ns, tupK h p.1 ns
end TS

namespace TS
open PySem PyProof.Rows
open HT (lexLt)
variable {prog : Program} {w : World} {A : Around} {E : Value → Shared → Prop} {s : Shared}
/-- the heap while the items of the list at a are sorted: the list is bare, its items stand in a tuple, behind it an empty list -/
def bared (h : Heap) (a : Addr) (vs : List Value) : Heap := ((h.update a (Obj.mapSeq fun _ => #[])).push (seqObj "tuple" vs.toArray 0)).push (seqObj "list" #[] 0)
theorem bared_self {h : Heap} {a : Addr} {vs : List Value} {n : Nat} (ho : h.get? a = some (seqObj "list" vs.toArray n)) : ∃ e, (h.update a (Obj.mapSeq fun _ => #[])).get? a = some (seqObj "list" #[] e) ∧ (bared h a vs).get? a = some (seqObj "list" #[] e) :=
  have g := get?_update_seq ho fun _ => #[]
  ⟨_, g, Heap.get?_push_of_some _ (Heap.get?_push_of_some _ g)⟩
theorem bared_else {h : Heap} {a b : Addr} {vs : List Value} {o : Obj} (hb : b ≠ a) (e : h.get? b = some o) : (bared h a vs).get? b = some o :=
  Heap.get?_push_of_some _ (Heap.get?_push_of_some _ ((Heap.get?_update_ne _ _ _ _ hb).trans e))
theorem short_pairwise {α : Type} {le : α → α → Prop} : ∀ {l : List α}, l.length < 2 → l.Pairwise le
  | [], _ => .nil
  | [_], _ => List.pairwise_singleton _ _
  | _ :: _ :: l, z => absurd z (by simp)
theorem list_sort_gen {a : Addr} {vs : List Value} {n : Nat} {P : Fin → Shared → Prop} {KD : SortKind → Prop} {D : Keyed → Prop} {less : Keyed → Keyed → Bool} (ho : s.heap.get? a = some (seqObj "list" vs.toArray n)) (hlen : vs.length ≤ sizeLine)
    (kind : ∀ (s' : Shared) (Q : SortKind → Shared → Prop), (∀ b o, b ≠ a → s.heap.get? b = some o → s'.heap.get? b = some o) → 2 ≤ vs.length → (∀ kd, KD kd → Q kd s') → wpAny (model prog w) A (keyKind' vs.toArray) Q E s')
    (cmp : ∀ (s' : Shared) (kd : SortKind), (∀ b o, b ≠ a → s.heap.get? b = some o → s'.heap.get? b = some o) → KD kd → Cmp (model prog w) A E s' kd D less) (dom : ∀ v ∈ vs, D (v, v))
    (h : ∀ out : Array Keyed, out.Perm (pairsOf vs) → out.toList.Pairwise (leq less) → P (.done (.ret .none)) { s with heap := sortedHeap s.heap a vs (out.map (·.2)) }) :
    wpAny (model prog w) A (Builtin.«list.sort» ⟨[.ref a], []⟩) P E s := by
  obtain ⟨e, b1, b2⟩ := bared_self ho
  have few : (vs.toArray : Array Value).size ≤ sizeLine := by simpa using hlen
  rw [list_sort_plain]
  refine wpAny_bind (listItems_at ho rfl (wpAny_bind (listUpdate_at ho rfl (wpAny_bind (seqEpoch_at b1 rfl (wpAny_bind (wpAny_newTuple (wpAny_bind (wpAny_newList (wpAny_holding ?_))) few)))) few)))
  change wpAny _ A _ P E { s with heap := bared s.heap a vs }
  -- what is left, once the pairs are in order
  have put : ∀ out : Array Keyed, out.Perm (pairsOf vs) → (out.map (·.2)).size ≤ sizeLine + 1 := fun out hp => by
    have := hp.size_eq
    rw [Array.size_map, this, pairsOf_size]; omega
  have many : (pairsOf vs).size = vs.length := pairsOf_size _
  by_cases h2 : vs.toArray.size < 2
  case' pos =>
    simp only [if_pos h2]
    refine wpAny_bind (wpAny_pure ?_)
    rw [StateT.run_pure]
    refine wpAny_bind (wpAny_pure ?_)
    have hp : (vs.toArray.zip vs.toArray).Perm (pairsOf vs) := Array.Perm.refl _
    have hs : (vs.toArray.zip vs.toArray).toList.Pairwise (leq less) := short_pairwise (by rw [Array.length_toList]; simpa using h2)
  case' neg =>
    simp only [if_neg h2]
    have h2 : 2 ≤ vs.length := by simpa using h2
    refine wpAny_bind (kind _ _ (fun b o hb => bared_else hb) h2 fun kd hkd => ?_)
    have hd : ∀ x ∈ (pairsOf vs).toList, D x := fun x hx => by
      rw [pairsOf_toList] at hx
      obtain ⟨e, hm⟩ := mem_zip_self hx
      rw [show x = (x.1, x.1) from Prod.ext rfl e.symm]
      exact dom x.1 hm
    refine wpAny_bind (wpAny_mono (wp_sortRuns (cmp _ kd (fun b o hb => bared_else hb) hkd) (st := SortSt.mk' kd (vs.toArray.zip vs.toArray) #[] 7 none) (Q := fun _ z => (arrOf z).Perm (pairsOf vs) ∧ failedOf z = none ∧ (arrOf z).toList.Pairwise (leq less)) rfl rfl rfl hd (many ▸ h2) fun z z1 z2 z3 => ⟨z1, z2, z3⟩) (fun c s' hc => ?_) fun _ _ e => e)
    obtain ⟨⟨⟩, z⟩ := c
    obtain ⟨rfl, hp, hf, hs⟩ := hc
    replace hf : failedOf z = none := hf
  all_goals
    dsimp only
    refine wpAny_bind (seqEpoch_at b2 rfl (wpAny_bind (listUpdate_at b2 rfl ?_ (Nat.zero_le _) (put _ hp))))
    try rw [hf]
    rw [if_neg (by simp)]
    exact wpAny_pure (h _ hp hs)
end TS

namespace M
open PySem PySem.Spec PyProof.Rows L2
open HT (lexLt)
variable [Tabs]
/-- the sorted pairs, as values -/
theorem out_vals {vs : List Value} {out : Array Keyed} (hp : out.Perm (pairsOf vs)) : (out.map (·.2)).toList.Perm vs ∧ ∀ p ∈ out.toList, p.1 = p.2 ∧ p.1 ∈ vs := by
  have hp := Array.perm_iff_toList_perm.mp hp
  rw [pairsOf_toList] at hp
  refine ⟨?_, fun p h => mem_zip_self (hp.mem_iff.mp h)⟩
  rw [Array.toList_map]
  have h2 := hp.map (fun p : Keyed => p.2)
  have e : (vs.zip vs).map (fun p : Keyed => p.2) = vs := by rw [List.map_snd_zip (Nat.le_refl _)]
  rw [e] at h2
  exact h2
section
variable {X : Cx}
def DI (p : Keyed) : Prop := p.1 = p.2 ∧ ∃ n t, p.1 = Value.int n t
omit [Tabs] in
theorem cmp_int {prog : Program} {w : World} {A : Around} {E : Value → Shared → Prop} {s : Shared} : TS.Cmp (model prog w) A E s oneType' DI (fun x y => decide (numOf x.1 < numOf y.1)) := by
  refine ⟨fun x y st Q dx dy hks q => ?_, fun x _ => decide_eq_false (by omega), fun x y _ _ h => decide_eq_false (by have := of_decide_eq_true h; omega), fun x y z _ _ _ h1 h2 => decide_eq_false (by have := of_decide_eq_false h1; have := of_decide_eq_false h2; omega)⟩
  obtain ⟨_, n, t, hx⟩ := dx
  obtain ⟨_, m, u, hy⟩ := dy
  rw [lt'_eq]
  refine wpS_bind (wpS_get (wpS_bind ?_))
  rw [hks, hx, hy, keyLt'_oneType]
  rw [hx, hy] at q
  exact wpS_lift (wpAny_attempt (oneLt_int ⟨rfl, wpS_pure q⟩))
end
/-! ### plainly -/
def tv (ns : List Int) : PV := .tup (ns.map PV.int)
end M

namespace M
open PySem PySem.Spec PyProof.Rows L2
variable [Tabs]

/-! ### comprehensions with two fors, a name each: the new list lies in the store from the start, at n0 -/
/-- how an iterator's turns read, C said of each state -/
def Walk (K : PySem.W.Frag) (J : It) (ι1 : List Addr) (H1 : Hp) (C : Sto → Prop) (xs : List PV) : Prop := ∀ ι' H' S' j, Fut K ι1 H1 ι' H' → RS K ι' H' S' → C S' → (j < xs.length → J.go j H' ∧ ∀ x H2, J.yld j H' x H2 → ∃ p, xs[j]? = some p ∧ RV K ι' H2 p x ∧ Fut K ι' H' ι' H2 ∧ ∀ S, RS K ι' H' S → RS K ι' H2 S) ∧ (xs.length ≤ j → J.stop j H')
theorem Walk.its {K : PySem.W.Frag} {J : It} {ι1 : List Addr} {H1 : Hp} {xs : List PV} (rj : RIt K J ι1 H1 (.its xs)) : Walk K J ι1 H1 (fun _ => True) xs := fun ι' H' S' j f2 s2 _ => rj.fut f2 ι' H' .refl j
theorem Walk.lst {K : PySem.W.Frag} {J : It} {ι1 : List Addr} {H1 : Hp} {n : Nat} {xs : List PV} (rj : RIt K J ι1 H1 (.lst n)) : Walk K J ι1 H1 (fun S => SL S n xs) xs := fun ι' H' S' j f2 s2 hc => by
  obtain ⟨a, ha, rfl⟩ := rj
  have ha2 := f2.pre n a ha
  obtain ⟨vs, h1, h2⟩ := s2.sl ha2 hc
  refine ⟨fun hj => ⟨?_, fun x H2 hy => ?_⟩, fun hj => ⟨vs, h1, by rw [← h2.length]; exact hj⟩⟩
  · have hl : j < vs.length := by rw [← h2.length]; exact hj
    exact ⟨vs, vs[j], h1, by simp [hl]⟩
  · obtain ⟨e, hy⟩ := hy
    subst e
    obtain ⟨p, e1, rv⟩ := h2.get' (hy vs h1)
    exact ⟨p, e1, rv, .refl, fun S s => s⟩
section
variable {X : Cx} {elt iter iter1 : Expr} {ifs ifs1 : List Expr} {scope : Scope} {x x1 : Str} {pos px px1 : Pos} {wi wi1 : WI} {t t1 : WT} {e : WE}
end
end M

/-! list.sort and sorted with key=len, at any length. -/
namespace TS
open PySem PySem.Spec PyProof.Rows L2
variable {prog : Program} {w : World} {A : Around} {E : Value → Shared → Prop} {s : Shared}
/-- a tuple of so many -/
def TupL (h : Heap) (v : Value) (k : Int) : Prop := ∃ b its, v = .ref b ∧ IsTup h b its ∧ (its.size : Int) = k ∧ its.size ≤ sizeLine
end TS

/-! sorted(.., key=len), in plain values. -/
namespace TS
open PySem PySem.Spec PyProof.Rows L2
variable {prog : Program} {w : World} {A : Around} {E : Value → Shared → Prop} {s : Shared}
theorem TupL.len {h : Heap} {v : Value} {k : Int} {ns : List Int} (x : TupL h v k) (y : tupK h v ns) : k = ns.length := by
  obtain ⟨b, its, rfl, ⟨o, e, _, n, d⟩, rfl, _⟩ := x
  obtain ⟨b', its', e', ⟨o', e2, _, n', d'⟩, i⟩ := y
  injection e' with e'
  subst e'
  rw [e] at e2
  injection e2 with e2
  subst e2
  rw [d] at d'
  injection d' with d1 _
  subst d1
  have := i.length
  rw [Array.length_toList] at this
  omega
end TS
namespace M
open PySem PySem.Spec PyProof.Rows L2
variable [Tabs]
section
variable {X : Cx} {x y : Str} {p py kp pos : Pos} {e : Expr} {t : TA}
end
section
variable {X : Cx} {x y : Str} {p py kp pos : Pos} {e : Expr} {g : WA}
end
end M

/-! The probing of a set's table, as numbers alone. -/
namespace ST
open PySem PySem.SetTable
/-! ### below -/
theorem below_go {l1 l2 : List Nat} {j : Nat} (h1 : ∀ x ∈ l1, x < j) (h2 : ∀ x ∈ l2, j ≤ x) : ∀ (f lo hi : Nat), hi - lo ≤ f → lo ≤ l1.length → l1.length ≤ hi → hi ≤ (l1 ++ l2).length → below.go (l1 ++ l2).toArray j f lo hi = l1.length := by
  intro f
  induction f with
  | zero => intro lo hi hf a b _; show lo = _; omega
  | succ f ih =>
    intro lo hi hf a b c
    unfold below.go
    by_cases hlt : lo < hi
    · rw [if_pos hlt]
      have hm1 : lo ≤ (lo + hi) / 2 := by omega
      have hm2 : (lo + hi) / 2 < hi := by omega
      have hm3 : (lo + hi) / 2 < (l1 ++ l2).length := by omega
      have hg : (l1 ++ l2).toArray.getD ((lo + hi) / 2) j = (l1 ++ l2)[(lo + hi) / 2] := by
        rw [Array.getD_eq_getD_getElem?, List.getElem?_toArray, List.getElem?_eq_getElem hm3]; rfl
      dsimp only
      rw [hg]
      by_cases hc : (lo + hi) / 2 < l1.length
      · rw [List.getElem_append_left hc, if_pos (h1 _ (List.getElem_mem hc))]
        exact ih _ _ (by omega) (by omega) b c
      · rw [List.getElem_append_right (by omega), if_neg (by have := h2 _ (List.getElem_mem (l := l2) (n := (lo + hi) / 2 - l1.length) (by rw [List.length_append] at hm3; omega)); omega)]
        exact ih _ _ (by omega) a (by omega) (by omega)
    · rw [if_neg hlt]; omega
theorem below_at {l1 l2 : List Nat} {j : Nat} (h1 : ∀ x ∈ l1, x < j) (h2 : ∀ x ∈ l2, j ≤ x) : below (l1 ++ l2).toArray j = l1.length := by
  unfold below
  exact below_go h1 h2 _ _ _ (by simp) (Nat.zero_le _) (by simp) (by simp)
/-! ### the way of a probe -/
def adv (mask : Nat) (p : Probe) : Probe :=
  if 0 < p.more then { p with more := p.more - 1, j := p.j + 1 } else
  { p with j := (leap mask p.i p.perturb).1, more := runEnd mask (leap mask p.i p.perturb).1 - (leap mask p.i p.perturb).1, i := (leap mask p.i p.perturb).1, perturb := (leap mask p.i p.perturb).2 }
def rs (mask : Nat) (q : Nat × Nat) : Probe := { j := q.1, more := runEnd mask q.1 - q.1, i := q.1, perturb := q.2, dummy := none }
def RR (mask : Nat) (h : Int) : Nat → Nat × Nat
  | 0 => (bits h % (mask + 1), bits h)
  | k + 1 => leap mask (RR mask h k).1 (RR mask h k).2
def PP (mask : Nat) (h : Int) : Nat → Probe
  | 0 => rs mask (RR mask h 0)
  | m + 1 => adv mask (PP mask h m)
theorem advance_eq (t : SetTable) (p : Probe) : t.advance p = adv t.mask p := rfl
theorem more_le (mask i : Nat) : runEnd mask i - i ≤ 9 := by unfold runEnd; split <;> omega
theorem PP_run {mask : Nat} {h : Int} {m : Nat} {q : Nat × Nat} (e : PP mask h m = rs mask q) : ∀ r, r ≤ runEnd mask q.1 - q.1 → PP mask h (m + r) = { rs mask q with j := q.1 + r, more := runEnd mask q.1 - q.1 - r } := by
  intro r
  induction r with
  | zero => intro _; exact e
  | succ r ih =>
    intro hr
    show adv mask (PP mask h (m + r)) = _
    rw [ih (by omega)]
    unfold adv
    rw [if_pos (by show runEnd mask q.1 - q.1 - r > 0; omega)]
    simp only [rs, Probe.mk.injEq, and_true, true_and]
    omega
theorem PP_next {mask : Nat} {h : Int} {m : Nat} {q : Nat × Nat} (e : PP mask h m = rs mask q) : PP mask h (m + (runEnd mask q.1 - q.1) + 1) = rs mask (leap mask q.1 q.2) := by
  show adv mask (PP mask h (m + (runEnd mask q.1 - q.1))) = _
  rw [PP_run e _ (Nat.le_refl _)]
  unfold adv
  rw [if_neg (by show ¬ runEnd mask q.1 - q.1 - (runEnd mask q.1 - q.1) > 0; omega)]
  rfl
theorem PP_RR (mask : Nat) (h : Int) : ∀ k, ∃ m, m ≤ 10 * k ∧ PP mask h m = rs mask (RR mask h k) := by
  intro k
  induction k with
  | zero => exact ⟨0, by omega, rfl⟩
  | succ k ih =>
    obtain ⟨m, hm, e⟩ := ih
    exact ⟨_, by have := more_le mask (RR mask h k).1; omega, PP_next e⟩
/-! ### it comes by every place -/
def itr (n : Nat) : Nat → Nat → Nat
  | 0, i => i
  | k + 1, i => (itr n k i * 5 + 1) % n
def orb (n : Nat) : Nat → Nat → List Nat
  | 0, _ => []
  | k + 1, i => i :: orb n k ((i * 5 + 1) % n)
theorem itr_shift (n : Nat) : ∀ k i, itr n k ((i * 5 + 1) % n) = itr n (k + 1) i
  | 0, _ => rfl
  | k + 1, i => by show (itr n k _ * 5 + 1) % n = _; rw [itr_shift n k i]; rfl
theorem itr_add (n : Nat) (a : Nat) : ∀ b i, itr n b (itr n a i) = itr n (a + b) i
  | 0, _ => rfl
  | b + 1, i => by show (itr n b _ * 5 + 1) % n = _; rw [itr_add n a b i]; rfl
theorem orb_mem (n : Nat) : ∀ k i x, x ∈ orb n k i → ∃ b, b < k ∧ itr n b i = x
  | 0, _, _, h => by cases h
  | k + 1, i, x, h => by
    rcases List.mem_cons.mp h with rfl | h
    · exact ⟨0, by omega, rfl⟩
    · obtain ⟨b, h1, h2⟩ := orb_mem n k _ x h
      exact ⟨b + 1, by omega, by rw [← itr_shift]; exact h2⟩
def full (n : Nat) : Bool := (List.range n).all (fun j => (orb n n 0).contains j) && itr n n 0 == 0
theorem full_all : ∀ n ∈ [8, 32, 128, 512], full n = true := by decide +kernel
theorem full_ok {n : Nat} (h : full n = true) : (∀ j < n, ∃ b, b < n ∧ itr n b 0 = j) ∧ itr n n 0 = 0 := by
  unfold full at h
  rw [Bool.and_eq_true] at h
  refine ⟨fun j hj => ?_, by simpa using h.2⟩
  have := List.all_eq_true.mp h.1 j (List.mem_range.mpr hj)
  exact orb_mem n n 0 j (by simpa using this)
theorem itr_cover {n : Nat} (h : full n = true) {i j : Nat} (hi : i < n) (hj : j < n) : ∃ b, b < n ∧ itr n b i = j := by
  obtain ⟨c, z⟩ := full_ok h
  obtain ⟨a, ha, ea⟩ := c i hi
  obtain ⟨b, hb, eb⟩ := c j hj
  have turn : ∀ b, itr n (n + b) 0 = itr n b 0 := fun b => by rw [← itr_add, z]
  rcases Nat.lt_or_ge b a with hlt | hge
  · refine ⟨n + b - a, by omega, ?_⟩
    rw [← ea, itr_add, show a + (n + b - a) = n + b by omega, turn, eb]
  · refine ⟨b - a, by omega, ?_⟩
    rw [← ea, itr_add, show a + (b - a) = b by omega, eb]
def okm (mask : Nat) : Prop := mask ∈ [7, 31, 127, 511]
theorem okm.full {mask : Nat} (h : okm mask) : full (mask + 1) = true := by
  refine full_all _ ?_
  simp only [okm, List.mem_cons, List.not_mem_nil, or_false] at h
  rcases h with rfl | rfl | rfl | rfl <;> decide
theorem bits_lt (h : Int) : bits h < 2 ^ 64 := by
  unfold bits
  have := Int.emod_lt_of_pos h (show (0 : Int) < 2 ^ 64 by decide)
  have := Int.emod_nonneg h (show (2 : Int) ^ 64 ≠ 0 by decide)
  omega
theorem RR_per (mask : Nat) (h : Int) : ∀ k, (RR mask h k).2 = bits h / 32 ^ k
  | 0 => by show bits h = _; simp
  | k + 1 => by
    show (RR mask h k).2 / 32 = _
    rw [RR_per mask h k, Nat.div_div_eq_div_mul, Nat.pow_succ]
theorem RR_late (mask : Nat) (h : Int) {k : Nat} (hk : 13 ≤ k) : (RR mask h k).2 = 0 := by
  rw [RR_per]
  refine Nat.div_eq_of_lt (Nat.lt_of_lt_of_le (bits_lt h) (Nat.le_trans (by decide) (Nat.pow_le_pow_right (n := 32) (by decide) hk)))
theorem RR_lt (mask : Nat) (h : Int) : ∀ k, (RR mask h k).1 < mask + 1
  | 0 => Nat.mod_lt _ (by omega)
  | k + 1 => Nat.mod_lt _ (by omega)
theorem RR_itr (mask : Nat) (h : Int) : ∀ b, (RR mask h (12 + b)).1 = itr (mask + 1) b (RR mask h 12).1
  | 0 => rfl
  | b + 1 => by
    have e : (RR mask h (12 + b + 1)).2 = 0 := RR_late mask h (by omega)
    have e2 : (RR mask h (12 + b + 1)).2 = (RR mask h (12 + b)).2 / 32 := rfl
    show ((RR mask h (12 + b)).1 * 5 + 1 + (RR mask h (12 + b)).2 / 32) % (mask + 1) = (itr (mask + 1) b _ * 5 + 1) % (mask + 1)
    rw [← e2, e, RR_itr mask h b, Nat.add_zero]
theorem RR_cover {mask : Nat} (ok : okm mask) (h : Int) {j : Nat} (hj : j ≤ mask) : ∃ k, k < turns mask ∧ (RR mask h k).1 = j := by
  obtain ⟨b, hb, e⟩ := itr_cover ok.full (RR_lt mask h 12) (show j < mask + 1 by omega)
  exact ⟨12 + b, by unfold turns; omega, by rw [RR_itr, e]⟩
theorem PP_cover {mask : Nat} (ok : okm mask) (h : Int) {j : Nat} (hj : j ≤ mask) : ∃ m, m < 10 * turns mask ∧ (PP mask h m).j = j := by
  obtain ⟨k, hk, e⟩ := RR_cover ok h hj
  obtain ⟨m, hm, e2⟩ := PP_RR mask h k
  exact ⟨m, by omega, by rw [e2]; exact e⟩
/-! ### a free place -/
theorem gap : ∀ (l : List Nat) (a n : Nat), l.Pairwise (· < ·) → (∀ x ∈ l, a ≤ x) → l.length ≤ n → ∃ j, a ≤ j ∧ j ≤ a + n ∧ j ∉ l
  | [], a, n, _, _, _ => ⟨a, by omega, by omega, by simp⟩
  | x :: l, a, n, hp, hx, hl => by
    rw [List.pairwise_cons] at hp
    by_cases e : x = a
    · obtain ⟨j, h1, h2, h3⟩ := gap l (a + 1) (n - 1) hp.2 (fun y hy => by have := hp.1 y hy; omega) (by simp at hl; omega)
      simp only [List.length_cons] at hl
      exact ⟨j, by omega, by omega, by simp only [List.mem_cons, not_or]; exact ⟨by omega, h3⟩⟩
    · have := hx x List.mem_cons_self
      refine ⟨a, by omega, by omega, ?_⟩
      simp only [List.mem_cons, not_or]
      exact ⟨fun h => e h.symm, fun h => by have := hp.1 a h; omega⟩
end ST

/-! A set's table with a place, a key and a value in each row. -/
namespace ST
open PySem PySem.SetTable
variable {K : Type} (hf : K → Int)
abbrev Row (K : Type) := Nat × K × Value
def Occ (zs : List (Row K)) (j : Nat) : Prop := ∃ e ∈ zs, e.1 = j
def plc (zs : List (Row K)) : Array Nat := (zs.map (·.1)).toArray
def ent (zs : List (Row K)) : Array (Int × Value) := (zs.map fun e => (hf e.2.1, e.2.2)).toArray
def Ris (zs : List (Row K)) : Prop := zs.Pairwise (fun a b => a.1 < b.1)
def Rch (mask : Nat) (zs : List (Row K)) : Prop := ∀ e ∈ zs, ∃ m, (PP mask (hf e.2.1) m).j = e.1 ∧ ∀ m' < m, Occ zs (PP mask (hf e.2.1) m').j
structure Tab (zs : List (Row K)) (t : SetTable) : Prop where
  place : t.place = plc zs
  dum : t.dummies = #[]
  ok : okm t.mask
  ris : Ris zs
  le : ∀ e ∈ zs, e.1 ≤ t.mask
  room : zs.length ≤ t.mask
  rch : Rch hf t.mask zs
variable {hf}
theorem split (zs : List (Row K)) (h : Ris zs) (j : Nat) : ∃ z1 z2, zs = z1 ++ z2 ∧ (∀ e ∈ z1, e.1 < j) ∧ (∀ e ∈ z2, j ≤ e.1) := by
  induction zs with
  | nil => exact ⟨[], [], rfl, by simp, by simp⟩
  | cons z zs ih =>
    unfold Ris at h
    rw [List.pairwise_cons] at h
    by_cases c : z.1 < j
    · obtain ⟨z1, z2, rfl, a, b⟩ := ih h.2
      exact ⟨z :: z1, z2, rfl, fun e he => by
        rcases List.mem_cons.mp he with rfl | he
        · exact c
        · exact a e he, b⟩
    · exact ⟨[], z :: zs, rfl, by simp, fun e he => by
        rcases List.mem_cons.mp he with rfl | he
        · omega
        · have := h.1 e he; omega⟩
theorem below_split {z1 z2 : List (Row K)} {j : Nat} (h1 : ∀ e ∈ z1, e.1 < j) (h2 : ∀ e ∈ z2, j ≤ e.1) : below (plc (z1 ++ z2)) j = z1.length := by
  unfold plc
  rw [List.map_append]
  have := below_at (l1 := z1.map (·.1)) (l2 := z2.map (·.1)) (j := j) (fun x hx => by obtain ⟨e, he, rfl⟩ := List.mem_map.mp hx; exact h1 e he) (fun x hx => by obtain ⟨e, he, rfl⟩ := List.mem_map.mp hx; exact h2 e he)
  rw [this, List.length_map]
theorem plc_get (zs : List (Row K)) (i : Nat) : (plc zs)[i]? = zs[i]?.map (·.1) := by unfold plc; rw [List.getElem?_toArray, List.getElem?_map]
theorem ent_get (zs : List (Row K)) (i : Nat) : (ent hf zs)[i]? = zs[i]?.map (fun e => (hf e.2.1, e.2.2)) := by unfold ent; rw [List.getElem?_toArray, List.getElem?_map]
theorem plc_size (zs : List (Row K)) : (plc zs).size = zs.length := by unfold plc; simp
theorem ent_size (zs : List (Row K)) : (ent hf zs).size = zs.length := by unfold ent; simp
theorem slot_live {zs : List (Row K)} {t : SetTable} (T : Tab hf zs t) {e : Row K} (he : e ∈ zs) : ∃ i, t.slot e.1 = .live i ∧ zs[i]? = some e := by
  obtain ⟨z1, z2, hz, a, b⟩ := split zs T.ris e.1
  subst hz
  have h2 : z2 ≠ [] := by
    rintro rfl
    rw [List.append_nil] at he
    have := a e he; omega
  obtain ⟨f, z2, rfl⟩ := List.exists_cons_of_ne_nil h2
  have hfe : f = e := by
    rcases List.mem_append.mp he with h | h
    · have := a e h; omega
    · rcases List.mem_cons.mp h with h | h
      · exact h.symm
      · have hr := T.ris
        unfold Ris at hr
        rw [List.pairwise_append] at hr
        have := (List.pairwise_cons.mp hr.2.1).1 e h
        have := b f List.mem_cons_self
        omega
  subst hfe
  refine ⟨z1.length, ?_, by simp⟩
  unfold slot
  dsimp only
  rw [T.place, below_split a b, plc_get]
  simp
theorem slot_empty {zs : List (Row K)} {t : SetTable} (T : Tab hf zs t) {j : Nat} (hj : ¬ Occ zs j) : t.slot j = .empty := by
  obtain ⟨z1, z2, hz, a, b⟩ := split zs T.ris j
  unfold slot
  dsimp only
  rw [T.place, T.dum]
  have h1 : ((plc zs)[below (plc zs) j]? == some j) = false := by
    subst hz
    rw [below_split a b, plc_get]
    cases hc : (z1 ++ z2)[z1.length]? with
    | none => rfl
    | some e =>
      have he := List.mem_of_getElem? hc
      have : e.1 ≠ j := fun x => hj ⟨e, he, x⟩
      simpa using this
  rw [h1]
  have h2 : has #[] j = false := by unfold has; simp
  rw [h2]
  rfl
/-! ### probing -/
inductive Pr (hf : K → Int) (mask : Nat) (zs : List (Row K)) (h : Int) (m : Nat) : Option Met → Prop
  | empty (m' : Nat) (le : m ≤ m') (oc : ∀ x, m ≤ x → x < m' → ∃ e ∈ zs, e.1 = (PP mask h x).j ∧ hf e.2.1 ≠ h) (no : ¬ Occ zs (PP mask h m').j) : Pr hf mask zs h m (some (.empty (PP mask h m').j none))
  | cand (m' i : Nat) (e : Row K) (le : m ≤ m') (oc : ∀ x, m ≤ x → x < m' → ∃ e ∈ zs, e.1 = (PP mask h x).j ∧ hf e.2.1 ≠ h) (at_ : zs[i]? = some e) (pl : e.1 = (PP mask h m').j) (hs : hf e.2.1 = h) : Pr hf mask zs h m (some (.candidate (PP mask h m').j i (PP mask h (m' + 1))))
theorem adv_dummy (mask : Nat) (p : Probe) : (adv mask p).dummy = p.dummy := by unfold adv; split <;> rfl
theorem PP_dummy (mask : Nat) (h : Int) : ∀ m, (PP mask h m).dummy = none
  | 0 => rfl
  | m + 1 => by show (adv mask _).dummy = none; rw [adv_dummy, PP_dummy mask h m]
theorem Tab.free {zs : List (Row K)} {t : SetTable} (T : Tab hf zs t) : ∃ j, j ≤ t.mask ∧ ¬ Occ zs j := by
  obtain ⟨j, _, h2, h3⟩ := gap (zs.map (·.1)) 0 t.mask (by rw [List.pairwise_map]; exact T.ris) (fun _ _ => Nat.zero_le _) (by rw [List.length_map]; exact T.room)
  exact ⟨j, by omega, fun ⟨e, he, ej⟩ => h3 (List.mem_map.mpr ⟨e, he, ej⟩)⟩
/-- the first free place on a way -/
theorem Tab.freeAt {zs : List (Row K)} {t : SetTable} (T : Tab hf zs t) (h : Int) : ∃ m, m < 10 * turns t.mask ∧ ¬ Occ zs (PP t.mask h m).j := by
  obtain ⟨j, h1, h2⟩ := T.free
  obtain ⟨m, hm, e⟩ := PP_cover T.ok h h1
  exact ⟨m, hm, by rw [e]; exact h2⟩
/-! ### laying one row more -/
theorem insertAt_list {α : Type} (a b : List α) (x : α) : insertAt (a ++ b).toArray a.length x = (a ++ x :: b).toArray := by
  unfold insertAt
  apply Array.toList_inj.mp
  simp
theorem insertAt_ent (z1 z2 : List (Row K)) (e : Row K) : insertAt (ent hf (z1 ++ z2)) z1.length (hf e.2.1, e.2.2) = ent hf (z1 ++ e :: z2) := by
  unfold ent
  rw [List.map_append, List.map_append, List.map_cons]
  have := insertAt_list (z1.map fun e => (hf e.2.1, e.2.2)) (z2.map fun e => (hf e.2.1, e.2.2)) (hf e.2.1, e.2.2)
  rw [List.length_map] at this
  exact this
theorem insertAt_plc (z1 z2 : List (Row K)) (e : Row K) : insertAt (plc (z1 ++ z2)) z1.length e.1 = plc (z1 ++ e :: z2) := by
  unfold plc
  rw [List.map_append, List.map_append, List.map_cons]
  have := insertAt_list (z1.map (·.1)) (z2.map (·.1)) e.1
  rw [List.length_map] at this
  exact this
theorem put_eq {zs : List (Row K)} {t : SetTable} (T : Tab hf zs t) {e : Row K} (hno : ¬ Occ zs e.1) : ∃ z1 z2, zs = z1 ++ z2 ∧ t.put e.1 = ({ t with place := plc (z1 ++ e :: z2) }, z1.length) ∧ Ris (z1 ++ e :: z2) := by
  obtain ⟨z1, z2, rfl, a, b⟩ := split zs T.ris e.1
  refine ⟨z1, z2, rfl, ?_, ?_⟩
  · unfold put
    dsimp only
    rw [T.place, below_split a b, insertAt_plc, T.dum]
    have h2 : has #[] e.1 = false := by unfold has; simp
    rw [h2]
    simp only [Bool.false_eq_true, if_false]
  · have hr := T.ris
    unfold Ris at hr ⊢
    rw [List.pairwise_append] at hr ⊢
    refine ⟨hr.1, ?_, ?_⟩
    · rw [List.pairwise_cons]
      exact ⟨fun x hx => by
        have := b x hx
        have : x.1 ≠ e.1 := fun q => hno ⟨x, List.mem_append_right _ hx, q⟩
        omega, hr.2.1⟩
    · intro x hx y hy
      rcases List.mem_cons.mp hy with rfl | hy
      · exact a x hx
      · exact hr.2.2 x hx y hy
theorem put_tab {z1 z2 : List (Row K)} {t : SetTable} (T : Tab hf (z1 ++ z2) t) {e : Row K} (hris : Ris (z1 ++ e :: z2)) (hle : e.1 ≤ t.mask) (hm : (z1 ++ z2).length + 1 ≤ t.mask) {m : Nat} (hj : (PP t.mask (hf e.2.1) m).j = e.1) (hoc : ∀ m' < m, Occ (z1 ++ z2) (PP t.mask (hf e.2.1) m').j) :
    Tab hf (z1 ++ e :: z2) { t with place := plc (z1 ++ e :: z2) } := by
  have up : ∀ x, x ∈ z1 ++ z2 → x ∈ z1 ++ e :: z2 := fun x hx => by
    rcases List.mem_append.mp hx with h | h
    · exact List.mem_append_left _ h
    · exact List.mem_append_right _ (List.mem_cons_of_mem _ h)
  have upO : ∀ j, Occ (z1 ++ z2) j → Occ (z1 ++ e :: z2) j := fun j ⟨x, hx, q⟩ => ⟨x, up x hx, q⟩
  have inv : ∀ x, x ∈ z1 ++ e :: z2 → x = e ∨ x ∈ z1 ++ z2 := fun x hx => by
    rcases List.mem_append.mp hx with h | h
    · exact .inr (List.mem_append_left _ h)
    · rcases List.mem_cons.mp h with h | h
      · exact .inl h
      · exact .inr (List.mem_append_right _ h)
  refine ⟨rfl, T.dum, T.ok, hris, fun x hx => ?_, by simp at hm ⊢; omega, fun x hx => ?_⟩
  · rcases inv x hx with rfl | h
    · exact hle
    · exact T.le x h
  · rcases inv x hx with rfl | h
    · exact ⟨m, hj, fun m' h' => upO _ (hoc m' h')⟩
    · obtain ⟨m, a, b⟩ := T.rch x h
      exact ⟨m, a, fun m' h' => upO _ (b m' h')⟩
theorem j_le (mask : Nat) (h : Int) : ∀ m, (PP mask h m).j + (PP mask h m).more ≤ mask := by
  have key : ∀ q : Nat × Nat, q.1 < mask + 1 → (rs mask q).j + (rs mask q).more ≤ mask := fun q hq => by
    show q.1 + (runEnd mask q.1 - q.1) ≤ mask
    unfold runEnd
    split <;> omega
  intro m
  induction m with
  | zero => exact key _ (RR_lt mask h 0)
  | succ m ih =>
    show (adv mask _).j + (adv mask _).more ≤ mask
    unfold adv
    split
    · show (PP mask h m).j + 1 + ((PP mask h m).more - 1) ≤ mask; omega
    · exact key (leap mask (PP mask h m).i (PP mask h m).perturb) (Nat.mod_lt _ (by omega))
end ST

/-! Laying a table anew. -/
namespace ST
open PySem PySem.SetTable
def ocu (owner : Array (Option Nat)) (j : Nat) : Prop := (owner.getD j (some 0)).isNone = false
theorem free_ok {mask : Nat} {h : Int} {owner : Array (Option Nat)} : ∀ (f k m : Nat), PP mask h m = rs mask (RR mask h k) → (∀ m' < m, ocu owner (PP mask h m').j) → (∃ k', k ≤ k' ∧ k' < k + f ∧ ¬ ocu owner (RR mask h k').1) →
    ∃ m', layClean.free mask owner f (RR mask h k).1 (RR mask h k).2 = some (PP mask h m').j ∧ ¬ ocu owner (PP mask h m').j ∧ ∀ m'' < m', ocu owner (PP mask h m'').j := by
  intro f
  induction f with
  | zero => rintro k m _ _ ⟨k', a, b, _⟩; omega
  | succ f ih =>
    rintro k m e hm ⟨k', a, b, c⟩
    unfold layClean.free
    have hle : (RR mask h k).1 ≤ runEnd mask (RR mask h k).1 := by unfold runEnd; split <;> omega
    cases hfd : (List.range (runEnd mask (RR mask h k).1 + 1 - (RR mask h k).1)).find? fun x => (owner.getD ((RR mask h k).1 + x) (some 0)).isNone with
    | some x =>
      rw [List.find?_range_eq_some] at hfd
      obtain ⟨h1, h2, h3⟩ := hfd
      rw [List.mem_range] at h2
      have hj : ∀ y, y ≤ x → (PP mask h (m + y)).j = (RR mask h k).1 + y := fun y hy => by rw [PP_run e y (by omega)]
      dsimp only
      refine ⟨m + x, by rw [hj x (Nat.le_refl _)], ?_, fun y hy => ?_⟩
      · rw [hj x (Nat.le_refl _)]
        unfold ocu
        rw [h1]
        exact Bool.noConfusion
      · by_cases hy2 : y < m
        · exact hm y hy2
        · have := h3 (y - m) (by omega)
          have ej := hj (y - m) (by omega)
          rw [show m + (y - m) = y by omega] at ej
          rw [ej]
          unfold ocu
          simpa using this
    | none =>
      dsimp only
      rw [List.find?_range_eq_none] at hfd
      have hj : ∀ y, y ≤ runEnd mask (RR mask h k).1 - (RR mask h k).1 → (PP mask h (m + y)).j = (RR mask h k).1 + y := fun y hy => by rw [PP_run e y hy]
      have hocc : ∀ y, y ≤ runEnd mask (RR mask h k).1 - (RR mask h k).1 → ocu owner (PP mask h (m + y)).j := fun y hy => by
        rw [hj y hy]
        have := hfd y (by omega)
        unfold ocu
        simpa using this
      refine ih (k + 1) (m + (runEnd mask (RR mask h k).1 - (RR mask h k).1) + 1) (PP_next e) (fun y hy => ?_) ⟨k', ?_, by omega, c⟩
      · by_cases hy2 : y < m
        · exact hm y hy2
        · have := hocc (y - m) (by omega)
          rw [show m + (y - m) = y by omega] at this
          exact this
      · have : k' ≠ k := by
          rintro rfl
          have := hocc 0 (Nat.zero_le _)
          rw [hj 0 (Nat.zero_le _), Nat.add_zero] at this
          exact c this
        omega
/-- after some hashes: who owns which place -/
structure Lay (mask : Nat) (ws : List (Nat × Int)) (owner : Array (Option Nat)) : Prop where
  size : owner.size = mask + 1
  own : ∀ j k, owner.getD j none = some k ↔ ∃ h, ws[k]? = some (j, h)
  rch : ∀ w ∈ ws, ∃ m, (PP mask w.2 m).j = w.1 ∧ ∀ m' < m, ocu owner (PP mask w.2 m').j
theorem ocu_iff {mask : Nat} {ws : List (Nat × Int)} {owner : Array (Option Nat)} (L : Lay mask ws owner) {j : Nat} (hj : j ≤ mask) : ocu owner j ↔ ∃ k, owner.getD j none = some k := by
  unfold ocu
  have hlt : j < owner.size := by rw [L.size]; omega
  rw [Array.getD_eq_getD_getElem?, Array.getD_eq_getD_getElem?, Array.getElem?_eq_getElem hlt]
  cases owner[j] with
  | none => simp
  | some k => simp
theorem lay_nodup {mask : Nat} {ws : List (Nat × Int)} {owner : Array (Option Nat)} (L : Lay mask ws owner) : (ws.map (·.1)).Nodup := by
  unfold List.Nodup
  rw [List.pairwise_iff_getElem]
  intro i j hi hj hij he
  rw [List.length_map] at hi hj
  rw [List.getElem_map, List.getElem_map] at he
  have a := (L.own ws[i].1 i).mpr ⟨ws[i].2, by rw [List.getElem?_eq_getElem hi]⟩
  have b := (L.own ws[j].1 j).mpr ⟨ws[j].2, by rw [List.getElem?_eq_getElem hj]⟩
  rw [he, b] at a
  injection a with a
  omega
theorem lay_free {mask : Nat} {ws : List (Nat × Int)} {owner : Array (Option Nat)} (L : Lay mask ws owner) (hl : ws.length ≤ mask) : ∃ j, j ≤ mask ∧ ¬ ocu owner j := by
  -- else every place has an owner below the length
  refine Classical.byContradiction fun hno => ?_
  have all : ∀ j ≤ mask, ocu owner j := fun j hj => Classical.byContradiction fun c => hno ⟨j, hj, c⟩
  have hsub : ∀ j ∈ List.range (mask + 1), j ∈ ws.map (·.1) := fun j hj => by
    have hj : j ≤ mask := by have := List.mem_range.mp hj; omega
    obtain ⟨k, hk⟩ := (ocu_iff L hj).mp (all j hj)
    obtain ⟨h, hw⟩ := (L.own j k).mp hk
    exact List.mem_map.mpr ⟨_, List.mem_of_getElem? hw, rfl⟩
  have : (List.range (mask + 1)).length ≤ (ws.map (·.1)).length := by
    have h1 : ((ws.map (·.1)).filter (· ≤ mask)).Perm (List.range (mask + 1)) := by
      rw [List.perm_ext_iff_of_nodup ((lay_nodup L).filter _) List.nodup_range]
      intro a
      rw [List.mem_filter, List.mem_range]
      constructor
      · rintro ⟨_, h⟩; have := of_decide_eq_true h; omega
      · intro h; exact ⟨hsub a (List.mem_range.mpr h), decide_eq_true (by omega)⟩
    rw [← h1.length_eq]
    exact List.length_filter_le _ _
  rw [List.length_range, List.length_map] at this
  omega
def stepL (mask : Nat) (acc : Option (Array (Option Nat) × Nat)) (h : Int) : Option (Array (Option Nat) × Nat) := do
  let (owner, k) ← acc
  let j ← layClean.free mask owner (turns mask) (bits h % (mask + 1)) (bits h)
  pure (owner.setIfInBounds j (some k), k + 1)
theorem step_ok {mask : Nat} (ok : okm mask) {ws : List (Nat × Int)} {owner : Array (Option Nat)} (L : Lay mask ws owner) (hl : ws.length ≤ mask) (h : Int) :
    ∃ j owner', stepL mask (some (owner, ws.length)) h = some (owner', ws.length + 1) ∧ j ≤ mask ∧ Lay mask (ws ++ [(j, h)]) owner' := by
  obtain ⟨j0, hj0, hf0⟩ := lay_free L hl
  obtain ⟨k0, hk0, e0⟩ := RR_cover ok h hj0
  obtain ⟨m, e1, e2, e3⟩ := free_ok (mask := mask) (h := h) (owner := owner) (turns mask) 0 0 rfl (fun _ h => by omega) ⟨k0, Nat.zero_le _, by omega, by rw [e0]; exact hf0⟩
  have hjm : (PP mask h m).j ≤ mask := by have := j_le mask h m; omega
  have hlt : (PP mask h m).j < owner.size := by rw [L.size]; omega
  have hget : ∀ j', (owner.setIfInBounds (PP mask h m).j (some ws.length)).getD j' none = if j' = (PP mask h m).j then some ws.length else owner.getD j' none := fun j' => by
    rw [Array.getD_eq_getD_getElem?, Array.getElem?_setIfInBounds]
    by_cases c : (PP mask h m).j = j'
    · rw [if_pos c, if_pos hlt, if_pos c.symm]; rfl
    · rw [if_neg c, if_neg (fun x => c x.symm), Array.getD_eq_getD_getElem?]
  have hup : ∀ j', ocu owner j' → ocu (owner.setIfInBounds (PP mask h m).j (some ws.length)) j' := fun j' hj' => by
    unfold ocu at hj' ⊢
    rw [Array.getD_eq_getD_getElem?, Array.getElem?_setIfInBounds]
    by_cases c : (PP mask h m).j = j'
    · rw [if_pos c, if_pos hlt]; rfl
    · rw [if_neg c, ← Array.getD_eq_getD_getElem?]; exact hj'
  refine ⟨(PP mask h m).j, owner.setIfInBounds (PP mask h m).j (some ws.length), ?_, hjm, ?_, fun j' k => ?_, fun w hw => ?_⟩
  · have e1' : layClean.free mask owner (turns mask) (bits h % (mask + 1)) (bits h) = some (PP mask h m).j := e1
    unfold stepL
    show (layClean.free mask owner (turns mask) (bits h % (mask + 1)) (bits h) >>= _) = _
    rw [e1']
    rfl
  · rw [Array.size_setIfInBounds]; exact L.size
  · rw [hget]
    by_cases c : j' = (PP mask h m).j
    · rw [if_pos c]
      constructor
      · intro x
        injection x with x
        subst x
        exact ⟨h, by rw [List.getElem?_append_right (Nat.le_refl _), Nat.sub_self, c]; rfl⟩
      · rintro ⟨h', x⟩
        by_cases hk : k < ws.length
        · rw [List.getElem?_append_left hk] at x
          have := (L.own j' k).mpr ⟨h', x⟩
          exact absurd ((ocu_iff L (by omega)).mpr ⟨k, this⟩) (by rw [c]; exact e2)
        · by_cases hk2 : k = ws.length
          · rw [hk2]
          · rw [List.getElem?_eq_none (by simp; omega)] at x
            exact nomatch x
    · rw [if_neg c, L.own]
      constructor
      · rintro ⟨h', x⟩
        have : k < ws.length := (List.getElem?_eq_some_iff.mp x).1
        exact ⟨h', by rw [List.getElem?_append_left this]; exact x⟩
      · rintro ⟨h', x⟩
        by_cases hk : k < ws.length
        · rw [List.getElem?_append_left hk] at x; exact ⟨h', x⟩
        · by_cases hk2 : k = ws.length
          · rw [hk2, List.getElem?_append_right (Nat.le_refl _), Nat.sub_self] at x
            simp only [List.getElem?_cons_zero, Option.some.injEq, Prod.mk.injEq] at x
            exact absurd x.1.symm c
          · rw [List.getElem?_eq_none (by simp; omega)] at x
            exact nomatch x
  · rcases List.mem_append.mp hw with hw | hw
    · obtain ⟨m', a, b⟩ := L.rch w hw
      exact ⟨m', a, fun x hx => hup _ (b x hx)⟩
    · rw [List.mem_singleton.mp hw]
      exact ⟨m, rfl, fun x hx => hup _ (e3 x hx)⟩
theorem fold_ok {mask : Nat} (ok : okm mask) : ∀ (hs : List Int) (ws : List (Nat × Int)) (owner : Array (Option Nat)), Lay mask ws owner → ws.length + hs.length ≤ mask + 1 → (∀ w ∈ ws, w.1 ≤ mask) →
    ∃ ws' owner', hs.foldl (stepL mask) (some (owner, ws.length)) = some (owner', ws'.length) ∧ Lay mask ws' owner' ∧ ws'.map (·.2) = ws.map (·.2) ++ hs ∧ ∀ w ∈ ws', w.1 ≤ mask := by
  intro hs
  induction hs with
  | nil => intro ws owner L _ hw; exact ⟨ws, owner, rfl, L, by simp, hw⟩
  | cons h hs ih =>
    intro ws owner L hl hw
    simp only [List.length_cons] at hl
    obtain ⟨j, owner', e, hj, L'⟩ := step_ok ok L (by omega) h
    rw [List.foldl_cons, e]
    have := ih (ws ++ [(j, h)]) owner' L' (by simp; omega) (fun w hx => by
      rcases List.mem_append.mp hx with hx | hx
      · exact hw w hx
      · rw [List.mem_singleton.mp hx]; exact hj)
    obtain ⟨ws', owner'', a, b, c, d⟩ := this
    refine ⟨ws', owner'', by simpa using a, b, by rw [c]; simp, d⟩
theorem clean_ok {mask : Nat} (ok : okm mask) (hs : Array Int) (hl : hs.size ≤ mask + 1) : ∃ ws owner, layClean mask hs = some owner ∧ Lay mask ws owner ∧ ws.map (·.2) = hs.toList ∧ ∀ w ∈ ws, w.1 ≤ mask := by
  have L0 : Lay mask [] (Array.replicate (mask + 1) none) := ⟨by simp, fun j k => by
    rw [Array.getD_eq_getD_getElem?, Array.getElem?_replicate]
    constructor
    · intro h; split at h <;> exact nomatch h
    · rintro ⟨h, x⟩; simp at x, by simp⟩
  obtain ⟨ws, owner, e, L, h1, h2⟩ := fold_ok ok hs.toList [] _ L0 (by simpa using hl) (by simp)
  refine ⟨ws, owner, ?_, L, by simpa using h1, h2⟩
  unfold layClean
  rw [← Array.foldl_toList]
  have : ∀ acc : Option (Array (Option Nat) × Nat), ∀ l : List Int, l.foldl (fun acc h => do
    let (owner, k) ← acc
    let j ← layClean.free mask owner (turns mask) (bits h % (mask + 1)) (bits h)
    pure (owner.setIfInBounds j (some k), k + 1)) acc = l.foldl (stepL mask) acc := fun acc l => rfl
  rw [this]
  have e' : hs.toList.foldl (stepL mask) (some (Array.replicate (mask + 1) none, 0)) = some (owner, ws.length) := e
  rw [e']
  rfl
theorem fm_congr {α β : Type} {f g : α → Option β} : ∀ {l : List α}, (∀ x ∈ l, f x = g x) → l.filterMap f = l.filterMap g
  | [], _ => rfl
  | x :: l, h => by
    rw [List.filterMap_cons, List.filterMap_cons, h x List.mem_cons_self, fm_congr fun y hy => h y (List.mem_cons_of_mem _ hy)]
theorem fm_range {α : Type} : ∀ (l : List α), (List.range l.length).filterMap (fun k => l[k]?) = l
  | [] => rfl
  | x :: l => by
    rw [List.length_cons, List.range_succ_eq_map, List.filterMap_cons, List.filterMap_map]
    show x :: (List.range l.length).filterMap (fun k => l[k]?) = _
    rw [fm_range l]
variable {K : Type} {hf : K → Int}
def pick (zs : List (Row K)) (q : Nat × Nat) : Option (Row K) := zs[q.2]?.map fun e => (q.1, e.2)
theorem laid_ok {mask : Nat} (ok : okm mask) (zs : List (Row K)) (hl : zs.length ≤ mask) (fi mv : Nat) (led pl : Bool) :
    ∃ zs' order, laid mask fi mv led pl ((ent hf zs).map (·.1)) = some ({ mask, place := plc zs', dummies := #[], finger := fi, led, moves := mv, plain := pl }, order) ∧ order.filterMap ((ent hf zs)[·]?) = ent hf zs' ∧
      (zs'.map (·.2)).Perm (zs.map (·.2)) ∧ Tab hf zs' { mask, place := plc zs', dummies := #[], finger := fi, led, moves := mv, plain := pl } ∧ order.toList.Perm (List.range zs.length) := by
  obtain ⟨ws, owner, e, L, h1, h2⟩ := clean_ok ok ((ent hf zs).map (·.1)) (by rw [Array.size_map, ent_size]; omega)
  have hwl : ws.length = zs.length := by
    have := congrArg List.length h1
    simpa [ent] using this
  have hwh : ∀ (k : Nat) (j : Nat) (h : Int), ws[k]? = some (j, h) → ∃ z, zs[k]? = some z ∧ h = hf z.2.1 := fun k j h x => by
    have hk : k < zs.length := by rw [← hwl]; exact (List.getElem?_eq_some_iff.mp x).1
    refine ⟨zs[k], List.getElem?_eq_getElem hk, ?_⟩
    have := congrArg (fun l => l[k]?) h1
    simp only [List.getElem?_map, x, Array.toList_map, ent, List.toList_toArray, List.getElem?_eq_getElem hk, Option.map_some, Option.some.injEq] at this
    exact this
  let live := (List.range (mask + 1)).filterMap fun j => (owner.getD j none).map (j, ·)
  have mem_live : ∀ q : Nat × Nat, q ∈ live ↔ owner.getD q.1 none = some q.2 := fun q => by
    show q ∈ (List.range (mask + 1)).filterMap _ ↔ _
    rw [List.mem_filterMap]
    constructor
    · rintro ⟨j, _, x⟩
      cases hc : owner.getD j none with
      | none => rw [hc] at x; exact nomatch x
      | some k => rw [hc] at x; injection x with x; subst x; exact hc
    · intro x
      refine ⟨q.1, ?_, by rw [x]; rfl⟩
      rw [List.mem_range]
      obtain ⟨h, y⟩ := (L.own q.1 q.2).mp x
      have := h2 _ (List.mem_of_getElem? y)
      simp only at this
      omega
  have live_ris : live.Pairwise (fun a b => a.1 < b.1) := by
    show ((List.range (mask + 1)).filterMap _).Pairwise _
    rw [List.pairwise_filterMap]
    refine List.Pairwise.imp ?_ (List.pairwise_lt_range (n := mask + 1))
    intro a b hab q hq r hr
    cases hc : owner.getD a none with
    | none => rw [hc] at hq; exact nomatch hq
    | some k =>
      cases hd : owner.getD b none with
      | none => rw [hd] at hr; exact nomatch hr
      | some k' =>
        rw [hc] at hq; rw [hd] at hr
        injection hq with hq; injection hr with hr
        subst hq; subst hr
        exact hab
  have kk : ∀ q ∈ live, ∃ z, zs[q.2]? = some z ∧ ∃ m, (PP mask (hf z.2.1) m).j = q.1 ∧ ∀ m' < m, ocu owner (PP mask (hf z.2.1) m').j := fun q hq => by
    obtain ⟨h, y⟩ := (L.own q.1 q.2).mp ((mem_live q).mp hq)
    obtain ⟨z, hz, rfl⟩ := hwh _ _ _ y
    obtain ⟨m, a, b⟩ := L.rch _ (List.mem_of_getElem? y)
    exact ⟨z, hz, m, a, b⟩
  have kperm : (live.map (·.2)).Perm (List.range zs.length) := by
    rw [List.perm_ext_iff_of_nodup ?_ List.nodup_range]
    · intro k
      rw [List.mem_map, List.mem_range]
      constructor
      · rintro ⟨q, hq, rfl⟩
        obtain ⟨z, hz, _⟩ := kk q hq
        exact (List.getElem?_eq_some_iff.mp hz).1
      · intro hk
        have hk' : k < ws.length := by omega
        exact ⟨(ws[k].1, k), (mem_live _).mpr ((L.own _ _).mpr ⟨ws[k].2, List.getElem?_eq_getElem hk'⟩), rfl⟩
    · unfold List.Nodup
      rw [List.pairwise_map]
      refine List.Pairwise.imp_of_mem ?_ live_ris
      intro a b ha hb hab he
      obtain ⟨h, y⟩ := (L.own a.1 a.2).mp ((mem_live a).mp ha)
      obtain ⟨h', y'⟩ := (L.own b.1 b.2).mp ((mem_live b).mp hb)
      rw [he, y'] at y
      simp only [Option.some.injEq, Prod.mk.injEq] at y
      omega
  let zs' := live.filterMap (pick zs)
  have fm : ∀ {β : Type} (g : Row K → β) (l : List (Nat × Nat)), (∀ q ∈ l, ∃ z, zs[q.2]? = some z) → (l.filterMap (pick zs)).map g = l.filterMap (fun q => zs[q.2]?.map fun e => g (q.1, e.2)) := fun g l _ => by
    rw [List.map_filterMap]
    refine congrArg (fun f => List.filterMap f l) (funext fun q => ?_)
    unfold pick
    cases zs[q.2]? <;> rfl
  have hpl : plc zs' = (live.map (·.1)).toArray := by
    unfold plc
    rw [show zs'.map (·.1) = _ from fm (·.1) live fun q hq => let ⟨z, hz, _⟩ := kk q hq; ⟨z, hz⟩]
    congr 1
    rw [← List.filterMap_eq_map]
    refine fm_congr fun q hq => ?_
    obtain ⟨z, hz, _⟩ := kk q hq
    rw [hz]
    rfl
  have hpv : zs'.map (·.2) = (live.map (·.2)).filterMap (fun k => zs[k]?.map (·.2)) := by
    rw [show zs'.map (·.2) = _ from fm (·.2) live fun q hq => let ⟨z, hz, _⟩ := kk q hq; ⟨z, hz⟩, List.filterMap_map]
    rfl
  have hperm : (zs'.map (·.2)).Perm (zs.map (·.2)) := by
    rw [hpv]
    refine (kperm.filterMap _).trans ?_
    have e2 : (List.range zs.length).filterMap (fun k => zs[k]?.map (fun e : Row K => e.2)) = zs.map (fun e : Row K => e.2) := by
      have := fm_range (zs.map (fun e : Row K => e.2))
      rw [List.length_map] at this
      refine (fm_congr fun k _ => ?_).trans this
      rw [List.getElem?_map]
    rw [e2]
  have hent : ((live.map (·.2)).toArray).filterMap ((ent hf zs)[·]?) = ent hf zs' := by
    apply Array.toList_inj.mp
    rw [Array.toList_filterMap]
    show ((live.map (·.2))).filterMap _ = zs'.map fun e => (hf e.2.1, e.2.2)
    rw [show (zs'.map fun e => (hf e.2.1, e.2.2)) = (zs'.map (·.2)).map (fun e => (hf e.1, e.2)) by rw [List.map_map]; rfl, hpv]
    generalize live.map (·.2) = lk
    rw [List.map_filterMap]
    refine fm_congr fun k _ => ?_
    rw [ent_get]
    cases zs[k]? <;> rfl
  have hlen : zs'.length = zs.length := by have := hperm.length_eq; simpa using this
  have mem_zs' : ∀ x ∈ zs', ∃ q ∈ live, ∃ z, zs[q.2]? = some z ∧ x = (q.1, z.2) := fun x hx => by
    obtain ⟨q, hq, y⟩ := List.mem_filterMap.mp hx
    obtain ⟨z, hz, _⟩ := kk q hq
    unfold pick at y
    rw [hz] at y
    injection y with y
    exact ⟨q, hq, z, hz, y.symm⟩
  have occ' : ∀ j ≤ mask, ocu owner j → Occ zs' j := fun j hj ho => by
    obtain ⟨k, hk⟩ := (ocu_iff L hj).mp ho
    have hq := (mem_live (j, k)).mpr hk
    obtain ⟨z, hz, _⟩ := kk _ hq
    exact ⟨(j, z.2), List.mem_filterMap.mpr ⟨(j, k), hq, by unfold pick; rw [show zs[(j, k).2]? = some z from hz]; rfl⟩, rfl⟩
  refine ⟨zs', (live.map (·.2)).toArray, ?_, hent, hperm, ⟨rfl, rfl, ok, ?_, fun x hx => ?_, by rw [hlen]; exact hl, fun x hx => ?_⟩, kperm⟩
  · unfold laid
    rw [e]
    show some (_, _) = _
    rw [hpl]
  · show (live.filterMap (pick zs)).Pairwise _
    rw [List.pairwise_filterMap]
    refine List.Pairwise.imp ?_ live_ris
    intro a b hab q hq r hr
    unfold pick at hq hr
    cases hc : zs[a.2]? with
    | none => rw [hc] at hq; exact nomatch hq
    | some z =>
      cases hd : zs[b.2]? with
      | none => rw [hd] at hr; exact nomatch hr
      | some z' =>
        rw [hc] at hq; rw [hd] at hr
        injection hq with hq; injection hr with hr
        subst hq; subst hr
        exact hab
  · obtain ⟨q, hq, z, hz, rfl⟩ := mem_zs' x hx
    obtain ⟨h, y⟩ := (L.own q.1 q.2).mp ((mem_live q).mp hq)
    exact h2 _ (List.mem_of_getElem? y)
  · obtain ⟨q, hq, z, hz, rfl⟩ := mem_zs' x hx
    obtain ⟨z', hz', m, a, b⟩ := kk q hq
    rw [hz] at hz'
    injection hz' with hz'
    subst hz'
    exact ⟨m, a, fun m' hm' => occ' _ (Nat.le_trans (Nat.le_add_right _ _) (j_le mask (hf z.2.1) m')) (b m' hm')⟩
end ST

/-! Searching a set's table for a tuple of ints. -/
namespace ST
open PySem PySem.SetTable PySem.Spec PyProof.Rows
variable {prog : Program} {w : World} {A : Around} {E : Value → Shared → Prop} {s : Shared}
abbrev HF (prog : Program) (w : World) : List Int → Int := tupleKeyHash (intKind prog w)
def BT (w : World) : Bool := w.params.followText "set-order"
def TK (prog : Program) (w : World) (h : Heap) (ks : List Int) (v : Value) : Prop := ∃ a, v = .ref a ∧ IsTupleKey (intKind prog w) h ks a
theorem TK.inj {h : Heap} {k k' : List Int} {v : Value} (x : TK prog w h k v) (y : TK prog w h k' v) : k = k' := by
  obtain ⟨a, rfl, x⟩ := x
  obtain ⟨b, e, y⟩ := y
  injection e with e
  subst e
  exact x.inj y
theorem wp_byText {Q : Bool → Shared → Prop} (h : Q (BT w) s) : wpAny (model prog w) A setsByText Q E s :=
  by delta setsByText; exact wpAny_bind (wpAny_askSetting (wpAny_pure h))
theorem Tab.fits {K : Type} {hf : K → Int} {zs : List (Row K)} {t : SetTable} (T : Tab hf zs t) : t.fits (ent hf zs).size = true := by
  unfold SetTable.fits SetTable.fill
  rw [ent_size, T.place, T.dum, plc_size]
  have := T.room
  simpa using this
/-- a set of tuples of ints -/
structure SAt (prog : Program) (w : World) (h : Heap) (a : Addr) (zs : List (Row (List Int))) (o : Obj) (ep : Nat) (t : SetTable) : Prop where
  get : h.get? a = some o
  cls : o.cls = .type "set"
  data : o.data = .set (ent (HF prog w) zs) ep t
  tab : Tab (HF prog w) zs t
  plain : t.plain = true
  led : t.led = !BT w
  keys : ∀ e ∈ zs, TK prog w h e.2.1 e.2.2
  nd : (zs.map fun e => e.2.1).Nodup
section
variable {a : Addr} {zs : List (Row (List Int))} {o : Obj} {ep : Nat} {t : SetTable}
end
end ST

/-! Adding a tuple of ints to a set. -/
namespace ST
open PySem PySem.SetTable PySem.Spec PyProof.Rows
variable {prog : Program} {w : World} {A : Around} {E : Value → Shared → Prop} {s : Shared}
theorem TK.keep {h h' : Heap} {ks : List Int} {v : Value} {a : Addr} {o : Obj} (x : TK prog w h ks v) (ho : h.get? a = some o) (hc : o.cls = .type "set") (hs : Heap.SameBut a h h') : TK prog w h' ks v := by
  obtain ⟨b, rfl, o', items, n, h1, h2, h3, h4⟩ := x
  refine ⟨b, rfl, o', items, n, ?_, h2, h3, h4⟩
  rw [hs.2 b ?_]
  · exact h1
  · rintro rfl
    rw [ho] at h1
    injection h1 with h1
    subst h1
    rw [hc] at h2
    injection h2 with h2
    exact absurd h2 (by decide)
theorem TK.grow {h h' : Heap} {ks : List Int} {v : Value} (x : TK prog w h ks v) (hk : ∀ b o, h.get? b = some o → o.cls = .type "tuple" → h'.get? b = some o) : TK prog w h' ks v := by
  obtain ⟨b, rfl, o', items, n, h1, h2, h3, h4⟩ := x
  exact ⟨b, rfl, o', items, n, hk b o' h1 h2, h2, h3, h4⟩
theorem relay_size {mask n : Nat} (ok : okm mask) (h1 : n * 5 < mask * 3) (h2 : (n + 1) * 5 ≥ mask * 3) (h3 : n < 306) :
    okm (sizeAbove (grown (n + 1)) - 1) ∧ sizeAbove (grown (n + 1)) ≤ sizeLine ∧ (n + 1) * 5 < (sizeAbove (grown (n + 1)) - 1) * 3 ∧ n + 1 ≤ sizeAbove (grown (n + 1)) - 1 := by
  have hz : (1024 : Nat) ≤ sizeLine := by rw [sizeLine_eq]; decide
  simp only [okm, List.mem_cons, List.not_mem_nil, or_false] at ok
  have key : n + 1 = 5 ∨ n + 1 = 19 ∨ n + 1 = 77 := by
    rcases ok with h | h | h | h <;> rw [h] at h1 h2 <;> omega
  have e5 : sizeAbove (grown 5) = 32 := by decide
  have e19 : sizeAbove (grown 19) = 128 := by decide
  have e77 : sizeAbove (grown 77) = 512 := by decide
  rcases key with h | h | h
  · rw [h, e5]; exact ⟨by unfold okm; decide, by omega, by omega, by omega⟩
  · rw [h, e19]; exact ⟨by unfold okm; decide, by omega, by omega, by omega⟩
  · rw [h, e77]; exact ⟨by unfold okm; decide, by omega, by omega, by omega⟩
section
variable {a : Addr} {zs : List (Row (List Int))} {o : Obj} {ep : Nat} {t : SetTable}
end
end ST

/-! set() of a list of tuples of ints. -/
namespace ST
open PySem PySem.SetTable PySem.Spec PyProof.Rows
variable {prog : Program} {w : World} {A : Around} {E : Value → Shared → Prop} {s : Shared}
abbrev newSetO (w : World) : Obj := { cls := .type "set", dict := none, data := .set #[] 0 (.fresh 0 0 (!BT w)) }
/-- what is in after so many items -/
def Upto (ks : List (List Int)) (vs : List Value) (i : Nat) (zs : List (Row (List Int))) : Prop :=
  (∀ e ∈ zs, ∃ j, j < i ∧ ks[j]? = some e.2.1 ∧ vs[j]? = some e.2.2) ∧ ∀ j, j < i → ∃ e ∈ zs, ks[j]? = some e.2.1
theorem Upto.step {ks : List (List Int)} {vs : List Value} {i : Nat} {zs zs' : List (Row (List Int))} (U : Upto ks vs i zs) {k : List Int} {x : Value} (hk : ks[i]? = some k) (hx : vs[i]? = some x)
    (h : (∃ e ∈ zs, e.2.1 = k) ∧ zs' = zs ∨ (zs'.map (·.2)).Perm ((k, x) :: zs.map (·.2))) : Upto ks vs (i + 1) zs' := by
  rcases h with ⟨⟨e, he, hek⟩, rfl⟩ | hp
  · refine ⟨fun e he => ?_, fun j hj => ?_⟩
    · obtain ⟨j, a, b⟩ := U.1 e he
      exact ⟨j, by omega, b⟩
    · by_cases c : j < i
      · exact U.2 j c
      · exact ⟨e, he, by rw [show j = i by omega, hk, hek]⟩
  · have up : ∀ e ∈ zs, ∃ e' ∈ zs', e'.2 = e.2 := fun e he => by
      have : e.2 ∈ zs'.map (·.2) := hp.mem_iff.mpr (List.mem_cons_of_mem _ (List.mem_map.mpr ⟨e, he, rfl⟩))
      obtain ⟨e', h1, h2⟩ := List.mem_map.mp this
      exact ⟨e', h1, h2⟩
    refine ⟨fun e he => ?_, fun j hj => ?_⟩
    · have : e.2 ∈ (k, x) :: zs.map (·.2) := hp.mem_iff.mp (List.mem_map.mpr ⟨e, he, rfl⟩)
      rcases List.mem_cons.mp this with c | c
      · exact ⟨i, by omega, by rw [c]; exact hk, by rw [c]; exact hx⟩
      · obtain ⟨e', h1, h2⟩ := List.mem_map.mp c
        obtain ⟨j, a, b⟩ := U.1 e' h1
        exact ⟨j, by omega, by rw [← h2]; exact b⟩
    · by_cases c : j < i
      · obtain ⟨e, he, hj'⟩ := U.2 j c
        obtain ⟨e', h1, h2⟩ := up e he
        exact ⟨e', h1, by rw [h2]; exact hj'⟩
      · have : (k, x) ∈ zs'.map (·.2) := hp.mem_iff.mpr List.mem_cons_self
        obtain ⟨e', h1, h2⟩ := List.mem_map.mp this
        exact ⟨e', h1, by rw [h2, show j = i by omega, hk]⟩
section
variable {R : Result → Shared → Prop} {I : Addr} {fp wr : List Addr} {G : Array GenState → Array GenState → Prop} {n : Nat} {P : Nat → Value → Prop} {St : Nat → Shared → Prop}
theorem SAt.move {h h' : Heap} {a : Addr} {zs : List (Row (List Int))} {o : Obj} {ep : Nat} {t : SetTable} (S : SAt prog w h a zs o ep t) (h1 : h'.get? a = some o) (h2 : ∀ e ∈ zs, TK prog w h' e.2.1 e.2.2) : SAt prog w h' a zs o ep t :=
  ⟨h1, S.cls, S.data, S.tab, S.plain, S.led, h2, S.nd⟩
end
/-- set.__new__ with what it is led by -/
theorem new_set (x : Value) {Q : Value → Shared → Prop} (h : Q (.ref s.heap.objs.size) { s with heap := s.heap.push (newSetO w) }) :
    codeAny (model prog w) A (.call (.builtin "set.__new__") ⟨[.type "set", x], []⟩) (wants Q E) s := by
  refine codeAny_of_tree ?_
  show wpAny _ A.in1 (checkBuiltinCall "set.__new__" ⟨[.type "set", x], []⟩ >>= fun _ => again (.builtin "set.__new__" ⟨[.type "set", x], []⟩)) _ _ s
  refine wpAny_bind (wpAny_of_eq (PySem.F.newCall_set_1 x) (wpAny_pure ⟨plainId_quiet PySem.F.plain_set_new _, ?_⟩))
  refine codeAny_builtin PySem.F.entry_set_new ?_
  rw [Around.under_plainId PySem.F.plain_set_new _]
  unfold Builtin.«set.__new__» Builtin.Frozenset.newClass
  have self := sub_set_self
  cases s
  dsimp only
  wp_walk
  refine wpAny_askSetting (wpAny_pure ?_)
  dsimp only
  simp only [newObj]
  exact wpAny_bind (wpAny_alloc (wpAny_pure (wpAny_pure h)))
end ST

/-! A call of set, and walking a set. -/
namespace ST
open PySem PySem.SetTable PySem.Spec PyProof.Rows
variable {prog : Program} {w : World} {A : Around} {E : Value → Shared → Prop} {s : Shared}
end ST

/-! Walking a set. -/
namespace ST
open PySem PySem.SetTable PySem.Spec PyProof.Rows
variable {prog : Program} {w : World} {A : Around} {E : Value → Shared → Prop} {s : Shared}
theorem erase_perm {α : Type} : ∀ (l : List α) (i : Nat) (h : i < l.length), (l[i] :: l.eraseIdx i).Perm l
  | x :: l, 0, _ => .refl _
  | x :: l, i + 1, h => (List.Perm.swap _ _ _).trans ((erase_perm l i (by simpa using h)).cons x)
theorem pick_go {α : Type} (next : Nat → Nat) : ∀ (f k : Nat) (l : List α) (out : Array α), l.length ≤ f → (pickOrder.go next f k l out).toList.Perm (out.toList ++ l) := by
  intro f
  induction f with
  | zero => intro k l out h; cases l with
    | nil => simp [pickOrder.go]
    | cons x l => simp at h
  | succ f ih =>
    intro k l out h
    unfold pickOrder.go
    cases hc : l[next k % l.length]? with
    | none =>
      dsimp only
      cases l with
      | nil => simp
      | cons x l =>
        have := Nat.mod_lt (next k) (show 0 < (x :: l).length by simp)
        rw [List.getElem?_eq_getElem this] at hc
        exact nomatch hc
    | some x =>
      dsimp only
      obtain ⟨hi, ex⟩ := List.getElem?_eq_some_iff.mp hc
      refine (ih _ _ _ (by rw [List.length_eraseIdx_of_lt hi]; omega)).trans ?_
      rw [Array.toList_push, List.append_assoc]
      refine List.Perm.append_left _ ?_
      rw [← ex]
      exact erase_perm l _ hi
theorem pick_perm {α : Type} (next : Nat → Nat) (xs : Array α) : (pickOrder next xs).toList.Perm xs.toList := by
  unfold pickOrder
  refine (pick_go next _ _ _ _ (by simp)).trans ?_
  simp
/-- the order of a walk -/
def walkE (w : World) (a : Addr) (ep : Nat) (es : Array (Int × Value)) : List Value := (if BT w then pickOrder (w.params.setOrder a ep) es else es).toList.map (·.2)
theorem walk_perm {K : Type} {hf : K → Int} (w : World) (a : Addr) (ep : Nat) (zs : List (Row K)) : (walkE w a ep (ent hf zs)).Perm (zs.map (·.2.2)) := by
  unfold walkE
  have e : ((ent hf zs).toList.map (·.2)) = zs.map (·.2.2) := by unfold ent; simp
  cases BT w with
  | false => simp only [Bool.false_eq_true, if_false]; rw [e]
  | true => simp only [if_true]; rw [← e]; exact (pick_perm _ _).map _
theorem walk_len {K : Type} {hf : K → Int} (w : World) (a : Addr) (ep : Nat) (zs : List (Row K)) : (walkE w a ep (ent hf zs)).length = zs.length := by
  rw [(walk_perm w a ep zs).length_eq, List.length_map]
def SlotAt {K : Type} (zs : List (Row K)) (i sl : Nat) : Prop := (∀ e ∈ zs.take i, e.1 < sl) ∧ ∀ e ∈ zs.drop i, sl ≤ e.1
theorem SlotAt.zero {K : Type} (zs : List (Row K)) : SlotAt zs 0 0 := ⟨fun e he => by simp at he, fun _ _ => Nat.zero_le _⟩
theorem SlotAt.next {K : Type} {zs : List (Row K)} (r : Ris zs) {i : Nat} {e : Row K} (he : zs[i]? = some e) : SlotAt zs (i + 1) (e.1 + 1) := by
  obtain ⟨hi, ei⟩ := List.getElem?_eq_some_iff.mp he
  unfold Ris at r
  rw [List.pairwise_iff_getElem] at r
  refine ⟨fun x hx => ?_, fun x hx => ?_⟩
  · obtain ⟨j, hj, ej⟩ := List.getElem_of_mem hx
    rw [List.getElem_take] at ej
    rw [List.length_take] at hj
    by_cases c : j = i
    · subst c; rw [ei] at ej; rw [ej]; omega
    · have := r j i (by omega) hi (by omega)
      rw [ei, ej] at this
      omega
  · obtain ⟨j, hj, ej⟩ := List.getElem_of_mem hx
    rw [List.getElem_drop] at ej
    rw [List.length_drop] at hj
    have := r i (i + 1 + j) hi (by omega) (by omega)
    rw [ei, ej] at this
    omega
theorem SlotAt.below {K : Type} {zs : List (Row K)} {i sl : Nat} (h : SlotAt zs i sl) (hi : i ≤ zs.length) : below (plc zs) sl = i := by
  have := below_split h.1 h.2
  rw [List.take_append_drop, List.length_take, Nat.min_eq_left hi] at this
  exact this
/-- a set's table alone -/
structure SW {K : Type} (hf : K → Int) (w : World) (h : Heap) (a : Addr) (zs : List (Row K)) (o : Obj) (ep : Nat) (t : SetTable) : Prop where
  get : h.get? a = some o
  cls : o.cls = .type "set"
  data : o.data = .set (ent hf zs) ep t
  tab : Tab hf zs t
  plain : t.plain = true
  led : t.led = !BT w
theorem SAt.sw {h : Heap} {a : Addr} {zs : List (Row (List Int))} {o : Obj} {ep : Nat} {t : SetTable} (S : SAt prog w h a zs o ep t) : SW (HF prog w) w h a zs o ep t := ⟨S.get, S.cls, S.data, S.tab, S.plain, S.led⟩
theorem SW.move {K : Type} {hf : K → Int} {h h' : Heap} {a : Addr} {zs : List (Row K)} {o : Obj} {ep : Nat} {t : SetTable} (S : SW hf w h a zs o ep t) (e : ∀ o, h.get? a = some o → h'.get? a = some o) : SW hf w h' a zs o ep t := ⟨e _ S.get, S.cls, S.data, S.tab, S.plain, S.led⟩
section
variable {K : Type} {hf : K → Int} {a : Addr} {zs : List (Row K)} {o : Obj} {ep : Nat} {t : SetTable}
theorem wp_setWalk (S : SW hf w s.heap a zs o ep t) {Q : Array (Int × Value) → Shared → Prop} (h : ∀ es : Array (Int × Value), es.toList.map (·.2) = walkE w a ep (ent hf zs) → Q es s) : wpAny (model prog w) A (setWalk a) Q E s := by
  unfold setWalk
  refine wpAny_bind (wpAny_setState_of S.get S.data S.tab.fits ?_)
  dsimp only
  refine wpAny_bind (wp_byText ?_)
  have hh : Q (if BT w then pickOrder (w.params.setOrder a ep) (ent hf zs) else ent hf zs) s := h _ rfl
  cases hb : BT w with
  | true =>
    rw [hb] at hh
    exact wpAny_bind (wpAny_askSetting (wpAny_pure hh))
  | false =>
    rw [hb] at hh
    simp only [Bool.false_eq_true, if_false] at hh ⊢
    rw [if_neg (by show ¬ ((!t.plain && _) = true); rw [S.plain]; exact Bool.false_ne_true)]
    refine wpAny_bind ?_
    show wpAny _ _ (if (!t.led && _) = true then _ else _) _ _ _
    rw [S.led, hb, if_neg (by exact Bool.false_ne_true)]
    exact wpAny_pure (wpAny_pure hh)
theorem wp_setNext_item (S : SW hf w s.heap a zs o ep t) {i sl : Nat} {x : Value} (hx : (walkE w a ep (ent hf zs))[i]? = some x) (hs : BT w = true ∨ SlotAt zs i sl) {Q : Option (Value × Nat) → Shared → Prop} (h : ∀ sl', (BT w = true ∨ SlotAt zs (i + 1) sl') → Q (some (x, sl')) s) : wpAny (model prog w) A (setNext a sl i ep) Q E s := by
  unfold setNext
  refine wpAny_bind (wpAny_setState_of S.get S.data S.tab.fits ?_)
  dsimp only
  refine wpAny_bind (wp_byText ?_)
  cases hb : BT w with
  | true =>
    simp only [if_true, bne_self_eq_false, Bool.false_eq_true, if_false]
    refine wpAny_bind (wp_setWalk S fun es he => wpAny_pure ?_)
    rw [← he, List.getElem?_map] at hx
    rw [← Array.getElem?_toList]
    cases hc : es.toList[i]? with
    | none => rw [hc] at hx; exact nomatch hx
    | some e =>
      rw [hc] at hx
      injection hx with hx
      rw [← hx] at h
      exact h sl (.inl hb)
  | false =>
    have hs : SlotAt zs i sl := hs.resolve_left (by rw [hb]; exact Bool.false_ne_true)
    have hi : i < zs.length := by rw [← walk_len (hf := hf) w a ep zs]; exact (List.getElem?_eq_some_iff.mp hx).1
    simp only [Bool.false_eq_true, if_false]
    rw [if_neg (by show ¬ ((!t.plain && _) = true); rw [S.plain]; exact Bool.false_ne_true)]
    refine wpAny_bind ?_
    show wpAny _ _ (if (!t.led && _) = true then _ else _) _ _ _
    rw [S.led, hb, if_neg (by exact Bool.false_ne_true)]
    refine wpAny_pure ?_
    rw [S.tab.place, hs.below (Nat.le_of_lt hi), ent_get, plc_get, List.getElem?_eq_getElem hi]
    refine wpAny_pure ?_
    have e : x = zs[i].2.2 := by
      unfold walkE at hx
      rw [hb] at hx
      simp only [Bool.false_eq_true, if_false, List.getElem?_map, Array.getElem?_toList, ent_get, List.getElem?_eq_getElem hi, Option.map_some, Option.some.injEq] at hx
      exact hx.symm
    rw [e] at h
    exact h _ (.inr (SlotAt.next S.tab.ris (List.getElem?_eq_getElem hi)))
theorem wp_setNext_end (S : SW hf w s.heap a zs o ep t) {sl : Nat} (hs : BT w = true ∨ SlotAt zs zs.length sl) {Q : Option (Value × Nat) → Shared → Prop} (h : Q none s) : wpAny (model prog w) A (setNext a sl zs.length ep) Q E s := by
  unfold setNext
  refine wpAny_bind (wpAny_setState_of S.get S.data S.tab.fits ?_)
  dsimp only
  refine wpAny_bind (wp_byText ?_)
  cases hb : BT w with
  | true =>
    simp only [if_true, bne_self_eq_false, Bool.false_eq_true, if_false]
    refine wpAny_bind (wp_setWalk S fun es he => wpAny_pure ?_)
    have hl : es.size = zs.length := by
      have := congrArg List.length he
      rw [walk_len] at this
      simpa using this
    rw [Array.getElem?_eq_none (by omega)]
    exact h
  | false =>
    have hs : SlotAt zs zs.length sl := hs.resolve_left (by rw [hb]; exact Bool.false_ne_true)
    simp only [Bool.false_eq_true, if_false]
    rw [if_neg (by show ¬ ((!t.plain && _) = true); rw [S.plain]; exact Bool.false_ne_true)]
    refine wpAny_bind ?_
    show wpAny _ _ (if (!t.led && _) = true then _ else _) _ _ _
    rw [S.led, hb, if_neg (by exact Bool.false_ne_true)]
    refine wpAny_pure ?_
    rw [S.tab.place, hs.below (Nat.le_refl _), ent_get, List.getElem?_eq_none (Nat.le_refl _)]
    exact wpAny_pure h
end
end ST

/-! A set as a source of items. -/
namespace ST
open PySem PySem.SetTable PySem.Spec PyProof.Rows PySem.W
variable {prog : Program} {w : World} {A : Around} {E : Value → Shared → Prop} {s : Shared}
theorem slot_si_next : Slot "set_iterator" "__next__" "set_iterator.__next__" := by
  refine .of (owner := "set_iterator") (n := "__next__") ?_ (by decide +kernel) (by decide +kernel) (by decide +kernel) ?_ ?_
  · rw [typeLookup_type, builtinLookup_eq_fast]; kernel_rfl
  · first | exact .inl (by decide +kernel) | exact .inr (by decide +kernel)
  · rw [isSubtype_type]; kernel_rfl
theorem slot_si_iter : Slot "set_iterator" "__iter__" "set_iterator.__iter__" := by
  refine .of (owner := "set_iterator") (n := "__iter__") ?_ (by decide +kernel) (by decide +kernel) (by decide +kernel) ?_ ?_
  · rw [typeLookup_type, builtinLookup_eq_fast]; kernel_rfl
  · first | exact .inl (by decide +kernel) | exact .inr (by decide +kernel)
  · rw [isSubtype_type]; kernel_rfl
theorem entry_si_next : entryFor table "set_iterator.__next__" = some Builtin.«set_iterator.__next__» := by
  refine entryFor_of_tree ?_
  kernel_rfl
theorem owner_si : Manifest.owners.lookup (String.ofList ['r', 'o', 't', 'a', 'r', 'e', 't', 'i', '_', 't', 'e', 's'].reverse) = some Manifest.sig_set_iterator := by kernel_rfl
theorem args_si_next (v : Value) : argsOk "set_iterator.__next__" ⟨[v], []⟩ := by
  unfold argsOk
  rw [signature?_of (id := "set_iterator.__next__") (n := ['_', '_', 't', 'x', 'e', 'n', '_', '_']) (o := ['r', 'o', 't', 'a', 'r', 'e', 't', 'i', '_', 't', 'e', 's']) (by kernel_rfl) owner_si]
  kernel_rfl
theorem entry_s_iter : entryFor table "set.__iter__" = some Builtin.«frozenset.__iter__» := by
  refine entryFor_alias (id' := "frozenset.__iter__") ?_ rfl (by decide +kernel) ?_ <;> kernel_rfl
/-- the iterator -/
abbrev siObj (a : Addr) (sl i n ep : Nat) : Obj := { cls := .type "set_iterator", data := .fields #[.int sl 0, .int i 0, .ref a, .int n 0, .int ep 0] }
section
variable {K : Type} {hf : K → Int} {a I : Addr} {zs : List (Row K)} {o : Obj} {ep : Nat} {t : SetTable}
theorem wp_iter (S : SW hf w s.heap a zs o ep t) {Q : Value → Shared → Prop} (h : Q (.ref s.heap.objs.size) { s with heap := s.heap.push (siObj a 0 0 zs.length ep) }) : wpAny (model prog w) A (pyIter (.ref a)) Q E s := by
  have ty : s.TypeIs (.ref a) "set" := ⟨o, S.get, S.cls⟩
  refine wpAny_pyIter_slot ty PySem.F.slot_set_iter (wpAny_call_entry PySem.F.slot_set_iter ty entry_s_iter ?_ (PySem.F.args_set_iter_1 _))
  unfold Builtin.«frozenset.__iter__» Builtin.Frozenset.slot0 slotArgs Builtin.Frozenset.addrOf Builtin.Frozenset.sizeOf setDrawn setEntries setEpoch
  simp only [List.isEmpty_nil, Bool.not_true, Bool.false_eq_true, if_false, bind_assoc, List.length_nil, bne_self_eq_false, pure_bind]
  refine wpAny_bind (wpAny_setState_of S.get S.data S.tab.fits ?_)
  refine wpAny_bind (wpAny_setState_of S.get S.data S.tab.fits ?_)
  refine wpAny_bind (wp_byText ?_)
  dsimp only
  rw [if_neg (by show ¬ ((!BT w && (!t.plain && _)) = true); rw [S.plain]; cases BT w <;> exact Bool.false_ne_true)]
  refine wpAny_bind (wpAny_setState_of S.get S.data S.tab.fits ?_)
  dsimp only
  refine wpAny_bind (wpAny_newObj_type (wpAny_pure ⟨_, rfl, "set_iterator", _, ⟨_, Heap.get?_push_size _ rfl, rfl⟩, slot_si_next.lookup, ?_⟩))
  simpa [rawInt, ent_size, siObj] using h
theorem wp_next_item (S : SW hf w s.heap a zs o ep t) {i sl : Nat} {x : Value} (hI : s.heap.get? I = some (siObj a sl i zs.length ep)) (hx : (walkE w a ep (ent hf zs))[i]? = some x) (hs : BT w = true ∨ SlotAt zs i sl) {Q : Option Value → Shared → Prop}
    (h : ∀ h' sl', (BT w = true ∨ SlotAt zs (i + 1) sl') → h'.get? I = some (siObj a sl' (i + 1) zs.length ep) → Heap.SameBut I s.heap h' → Q (some x) { s with heap := h' }) : wpAny (model prog w) A (pyNext (.ref I)) Q E s := by
  have ty : s.TypeIs (.ref I) "set_iterator" := ⟨_, hI, rfl⟩
  unfold pyNext
  refine wpAny_bind (wpAny_attempt (wpAny_callSpecial?_slot (name := Str.ofString "__next__") ty slot_si_next (wpAny_call_entry slot_si_next ty entry_si_next ?_ (args_si_next _))))
  unfold Builtin.«set_iterator.__next__» slotArgs setEntries
  simp only [List.isEmpty_nil, Bool.not_true, Bool.false_eq_true, if_false, bind_assoc, List.length_nil, bne_self_eq_false, pure_bind]
  refine wpAny_bind (wpAny_fieldsOf hI rfl ?_)
  dsimp only
  refine wpAny_bind (wpAny_setState_of S.get S.data S.tab.fits ?_)
  dsimp only
  rw [ent_size, if_neg (by simp)]
  refine wpAny_bind (wp_setNext_item (i := i) (sl := sl) S hx hs fun sl' hs' => ?_)
  dsimp only
  refine wpAny_bind (wpAny_setField_rec hI (by simp) fun h1 g1 sb1 => ?_)
  refine wpAny_bind (wpAny_setField_rec g1 (by simp) fun h2 g2 sb2 => ?_)
  refine wpAny_pure ?_
  refine ⟨_, rfl, ?_⟩
  refine wpAny_pure (h h2 sl' hs' ?_ (sb1.trans sb2))
  have e : ((i + 1 : Nat) : Int) = (i : Int) + 1 := by omega
  simpa [rawInt, siObj, e] using g2
theorem wp_next_end (hh : A.handled = none) (S : SW hf w s.heap a zs o ep t) {sl : Nat} (hI : s.heap.get? I = some (siObj a sl zs.length zs.length ep)) (hs : BT w = true ∨ SlotAt zs zs.length sl) {Q : Option Value → Shared → Prop}
    (h : ∀ h', Heap.ExtBut I s.heap h' → Q none { s with heap := h' }) : wpAny (model prog w) A (pyNext (.ref I)) Q E s := by
  have ty : s.TypeIs (.ref I) "set_iterator" := ⟨_, hI, rfl⟩
  unfold pyNext
  refine wpAny_bind (wpAny_attempt (wpAny_callSpecial?_slot (name := Str.ofString "__next__") ty slot_si_next (wpAny_call_entry slot_si_next ty entry_si_next ?_ (args_si_next _))))
  unfold Builtin.«set_iterator.__next__» slotArgs setEntries
  simp only [List.isEmpty_nil, Bool.not_true, Bool.false_eq_true, if_false, bind_assoc, List.length_nil, bne_self_eq_false, pure_bind]
  refine wpAny_bind (wpAny_fieldsOf hI rfl ?_)
  dsimp only
  refine wpAny_bind (wpAny_setState_of S.get S.data S.tab.fits ?_)
  dsimp only
  rw [ent_size, if_neg (by simp)]
  refine wpAny_bind (wp_setNext_end (sl := sl) S hs ?_)
  dsimp only
  refine wpAny_bind (wpAny_setField_rec hI (by simp) fun h1 g1 sb1 => ?_)
  refine wpAny_bind ?_
  simp only [newExc, newTuple]
  refine wpAny_bind (wpAny_newObj_type ?_ (by size_fits))
  refine wpAny_bind (m := firstArgMember _ _) (wpAny_of_eq (a := Value.none) (by first | rfl | (simp only [firstArgMember]; rfl)) ?_)
  refine wpAny_newObj_type ?_ (by size_fits)
  simp only [raiseNew]
  refine wpAny_bind (wpAny_handled ?_)
  rw [show A.in1.handled = none from hh]
  refine wpAny_bind (wpAny_pure (wpAny_throw ?_))
  refine wpAny_bind (wpAny_isInstance (T := "StopIteration") (b := true) ⟨_, Heap.get?_push_size _ rfl, rfl⟩ isSubtype_stop ?_)
  exact wpAny_pure (h _ ((sb1.extBut.push _).push _))
theorem s_hint (ty : s.TypeIs (.ref a) "set") {Q : Bool → Shared → Prop} (h : Q false s) : wpAny (model prog w) A (Builtin.List.listLengthHint (.ref a)) Q E s := by
  unfold Builtin.List.listLengthHint
  refine wpAny_bind (wpAny_specialOf ty PySem.F.slot_set_len.lookup ?_)
  generalize hq : ("set.__len__" : String) = nm
  wp_delta
  rw [show splitId nm = some ("set", "__len__") from by subst hq; decide +kernel]
  subst hq
  refine wpAny_bind (wpAny_isInstance (T := "set") (b := true) ty sub_set_self ?_)
  refine wpAny_ite_split (fun c => absurd c (by decide)) fun _ => ?_
  refine wpAny_ite_split (fun _ => ?_) fun c => absurd (by decide +kernel) c
  exact wpAny_bind (wpAny_typeOf ty (wpAny_pure h))
theorem entry_si_iter : entryFor table "set_iterator.__iter__" = some Builtin.«dict_keyiterator.__iter__» := by
  refine entryFor_alias (id' := "dict_keyiterator.__iter__") ?_ rfl (by decide +kernel) ?_ <;> kernel_rfl
theorem args_si_iter (v : Value) : argsOk "set_iterator.__iter__" ⟨[v], []⟩ := by
  unfold argsOk
  rw [signature?_of (id := "set_iterator.__iter__") (n := ['_', '_', 'r', 'e', 't', 'i', '_', '_']) (o := ['r', 'o', 't', 'a', 'r', 'e', 't', 'i', '_', 't', 'e', 's']) (by kernel_rfl) owner_si]
  kernel_rfl
def StI {K : Type} (hf : K → Int) (w : World) (I a : Addr) (zs : List (Row K)) (o : Obj) (ep : Nat) (t : SetTable) (i : Nat) (h : Heap) : Prop :=
  SW hf w h a zs o ep t ∧ ∃ sl, (BT w = true ∨ SlotAt zs i sl) ∧ h.get? I = some (siObj a sl i zs.length ep)
theorem walks_set (hh : A.handled = none) (hne : a ≠ I) : Walks prog w A I [I, a] [I] zs.length (fun i v => (walkE w a ep (ent hf zs))[i]? = some v) (StI hf w I a zs o ep t) where
  sub := fun b hb => by simp only [List.mem_singleton] at hb; simp [hb]
  frame := fun _ _ _ st hk => ⟨st.1.move fun o e => hk a (by simp) o e, let ⟨sl, h1, h2⟩ := st.2; ⟨sl, h1, hk I (by simp) _ h2⟩⟩
  item := fun i s Q E hi st hQ => by
    obtain ⟨S, sl, h1, h2⟩ := st
    have hlt : i < (walkE w a ep (ent hf zs)).length := by rw [walk_len]; exact hi
    refine wp_next_item S h2 (List.getElem?_eq_getElem hlt) h1 fun h' sl' hs' hI' sb => ?_
    refine hQ _ h' s.toks (List.getElem?_eq_getElem hlt) ⟨S.move fun o e => ?_, sl', hs', hI'⟩ fun b o hb e => ?_
    · rw [sb.2 a hne]; exact e
    · rw [sb.2 b fun q => hb (by rw [q]; exact List.mem_singleton.mpr rfl)]; exact e
  done := fun s Q E st hQ => by
    obtain ⟨S, sl, h1, h2⟩ := st
    exact wp_next_end hh S h2 h1 fun h' he => hQ h' s.toks fun b o hb e => he b o (fun q => hb (by rw [q]; exact List.mem_singleton.mpr rfl)) e
  self := fun i s Q E st hQ => by
    obtain ⟨S, sl, h1, h2⟩ := st
    have ty : s.TypeIs (.ref I) "set_iterator" := ⟨_, h2, rfl⟩
    refine wpAny_pyIter_slot ty slot_si_iter (wpAny_call_entry slot_si_iter ty entry_si_iter ?_ (args_si_iter _))
    show wpAny _ _ (ret (.ref I)) _ _ s
    refine wpAny_pure ⟨_, rfl, "set_iterator", _, ty, slot_si_next.lookup, hQ⟩
theorem src_set : KdlSrc prog w "set" a a zs.length (fun i v => (walkE w a ep (ent hf zs))[i]? = some v) (fun h => SW hf w h a zs o ep t) where
  type := fun _ S => ⟨o, S.get, S.cls⟩
  there := fun _ S => ⟨Heap.lt_size S.get, Heap.lt_size S.get⟩
  keep := fun _ _ S hk => S.move fun o e => hk a (.inl rfl) o e
  notList := by decide
  notTuple := by decide
  hint := fun _ _ _ _ S q => s_hint ⟨o, S.get, S.cls⟩ q
  iter := fun A s hh S => ⟨siObj a 0 0 zs.length ep, StI hf w s.heap.objs.size a zs o ep t, (fun _ _ q => wp_iter S q), walks_set hh (Nat.ne_of_lt (Heap.lt_size S.get)),
    S.move fun _ e => Heap.get?_push_of_some _ e, 0, .inr (SlotAt.zero zs), Heap.get?_push_size _ rfl⟩
end
end ST

/-! sorted(set(..)) of tuples of ints. -/
namespace ST
open PySem PySem.SetTable PySem.Spec PyProof.Rows PySem.W
open HT (lexLt)
variable {prog : Program} {w : World} {A : Around} {E : Value → Shared → Prop} {s : Shared}
theorem intsAre_of {ks : List Int} {vs : List Value} (h : ItemsAre (intKind prog w) ks vs) : IntsAre vs ks := by
  induction h with
  | nil => exact .nil
  | cons h1 _ ih =>
    obtain ⟨t, rfl⟩ := Value.isInt_shape h1
    exact .cons _ t ih
theorem TK.tupK {h : Heap} {v : Value} {ns : List Int} (x : TK prog w h ns v) : TS.tupK h v ns := by
  obtain ⟨a, rfl, o, items, n, e, c, d, i⟩ := x
  exact ⟨a, items, rfl, ⟨o, e, c, n, d⟩, intsAre_of i⟩
variable [M.Tabs]
section
variable {a : Addr} {zs : List (Row (List Int))} {o : Obj} {ep : Nat} {t : SetTable}
end
end ST

/-! sorted(set(..)) in plain values. -/
namespace M
open PySem PySem.Spec PyProof.Rows L2
open HT (lexLt)
variable [Tabs]
section
variable {X : Cx} {x y : Str} {p1 p2 q1 q2 : Pos} {e : Expr} {t : TA}
end
section
variable {X : Cx} {x y : Str} {p1 p2 q1 q2 : Pos} {e : Expr} {g : WA} {k : Nat}
end
end M

/-! sum, max, min of a list of ints. -/
namespace M
open PySem PySem.Spec PyProof.Rows L2
variable [Tabs]
end M

/-! list(range(..)). -/
namespace M
open PySem PySem.Spec PyProof.Rows L2
variable [Tabs]
section
variable {X : Cx} {p1 p2 q1 q2 : Pos} {e : Expr} {t : TA}
end
section
variable {X : Cx} {p1 p2 q1 q2 : Pos} {e : Expr} {g : WA} {k : Nat}
end
end M

/-! A tuple of ints in a list or tuple of such ones. -/
namespace M
open PySem PySem.Spec PyProof.Rows L2
variable [Tabs]
section
variable {X : Cx}
end
end M

/-! min(.., default=None) of a list of ints. -/
namespace MD
open PySem PySem.Spec PyProof.Rows
section
variable {prog : Program} {w : World} {A : Around} {R : Result → Shared → Prop} {I : Addr} {fp wr : List Addr} {n : Nat} {P : Nat → Value → Prop} {St : Nat → Heap → Prop} {kw : List (Str × Value)}
end
section
variable {prog : Program} {w : World} {A : Around} {E : Value → Shared → Prop} {s : Shared}
end
end MD
namespace M
open PySem PySem.Spec PyProof.Rows L2
variable [Tabs]
section
variable {X : Cx} {x : Str} {p py kp pos : Pos} {e : Expr} {t : TA} {j : Nat}
end
section
variable {X : Cx} {x : Str} {p py kp pos : Pos} {e : Expr} {g : WA} {j : Nat} {k : Nat}
end
end M

/-! enumerate(tuple). -/
namespace MD
open PySem PySem.Spec PyProof.Rows L2
section
variable {prog : Program} {w : World} {A : Around} {E : Value → Shared → Prop} {s : Shared}
end
end MD
namespace M
open PySem PySem.Spec PyProof.Rows L2 MD
variable [Tabs]
end M

/-! Names of the module that stand for a number or a text. -/
namespace M
open PySem PySem.Spec PyProof.Rows L2
variable [Tabs]
theorem j_gstr {X : Cx} {x y : Str} {pos : Pos} (h : ∃ t, X.mg x = some (.str y t)) (hg : Gl X x := by rfl) (hd : (x == ("__debug__" : Str)) = false := by decide) : JE X (.Name x pos) (wC (.str y)) := by
  obtain ⟨t, h⟩ := h
  exact jc (pe_glob (v := .str y) hg h ⟨t, rfl⟩ hd) fun _ _ _ => .str y
end M

/-! Sets of ints: what is added is looked for one by one, but laid by the table. -/
namespace ST
open PySem PySem.SetTable PySem.Spec PyProof.Rows
variable {prog : Program} {w : World} {A : Around} {E : Value → Shared → Prop} {s : Shared}
abbrev HI (prog : Program) (w : World) : Int → Int := (intKind prog w).hash
structure SI (prog : Program) (w : World) (h : Heap) (a : Addr) (zs : List (Row Int)) (o : Obj) (ep : Nat) (t : SetTable) : Prop where
  get : h.get? a = some o
  cls : o.cls = .type "set"
  data : o.data = .set (ent (HI prog w) zs) ep t
  tab : Tab (HI prog w) zs t
  plain : t.plain = true
  led : t.led = !BT w
  keys : ∀ e ∈ zs, ∃ tk, e.2.2 = Value.int e.2.1 tk
  nd : (zs.map fun e => e.2.1).Nodup
theorem SI.sw {h : Heap} {a : Addr} {zs : List (Row Int)} {o : Obj} {ep : Nat} {t : SetTable} (S : SI prog w h a zs o ep t) : SW (HI prog w) w h a zs o ep t := ⟨S.get, S.cls, S.data, S.tab, S.plain, S.led⟩
theorem SI.move {h h' : Heap} {a : Addr} {zs : List (Row Int)} {o : Obj} {ep : Nat} {t : SetTable} (S : SI prog w h a zs o ep t) (e : h'.get? a = some o) : SI prog w h' a zs o ep t := ⟨e, S.cls, S.data, S.tab, S.plain, S.led, S.keys, S.nd⟩
/-- a probe that takes nothing for what it looks for ends at the first free place -/
theorem never_go {K : Type} {hf : K → Int} {zs : List (Row K)} {t : SetTable} (T : Tab hf zs t) {h : Int} : ∀ (f m : Nat), (∃ x, m ≤ x ∧ x < m + f ∧ ¬ Occ zs (PP t.mask h x).j) →
    ∃ m', m ≤ m' ∧ (∀ y, m ≤ y → y < m' → Occ zs (PP t.mask h y).j) ∧ ¬ Occ zs (PP t.mask h m').j ∧ probe.go t (fun _ => h + 1) h f (PP t.mask h m) = some (.empty (PP t.mask h m').j none) := by
  intro f
  induction f with
  | zero => rintro m ⟨x, a, b, _⟩; omega
  | succ f ih =>
    rintro m ⟨x, a, b, c⟩
    unfold probe.go
    by_cases hc : Occ zs (PP t.mask h m).j
    · obtain ⟨e, he, ej⟩ := id hc
      obtain ⟨i, hs, hi⟩ := slot_live T he
      rw [ej] at hs
      rw [hs]
      dsimp only
      have hne : x ≠ m := by rintro rfl; exact c hc
      obtain ⟨m', g1, g2, g3, g4⟩ := ih (m + 1) ⟨x, by omega, by omega, c⟩
      refine ⟨m', by omega, fun y h1 h2 => ?_, g3, ?_⟩
      · by_cases hy : y = m
        · subst hy; exact hc
        · exact g2 y (by omega) h2
      · rw [if_neg (by simp; omega), advance_eq]
        exact g4
    · rw [slot_empty T hc]
      dsimp only
      rw [PP_dummy]
      exact ⟨m, Nat.le_refl _, fun y h1 h2 => by omega, hc, rfl⟩
theorem free_slot {K : Type} {hf : K → Int} {zs : List (Row K)} {t : SetTable} (T : Tab hf zs t) (h : Int) : ∃ m, (∀ y, y < m → Occ zs (PP t.mask h y).j) ∧ ¬ Occ zs (PP t.mask h m).j ∧ t.freeSlot h = some ((PP t.mask h m).j, false) := by
  obtain ⟨x, hx, hno⟩ := T.freeAt h
  obtain ⟨m, _, g2, g3, g4⟩ := never_go T (h := h) (10 * turns t.mask) 0 ⟨x, Nat.zero_le _, by omega, hno⟩
  refine ⟨m, fun y hy => g2 y (Nat.zero_le _) hy, g3, ?_⟩
  unfold SetTable.freeSlot
  have e : t.probe (fun _ => h + 1) h (t.probeStart h) = some (.empty (PP t.mask h m).j none) := g4
  rw [e]
  rfl
section
variable {a : Addr} {zs : List (Row Int)} {o : Obj} {ep : Nat} {t : SetTable}
theorem elems_of (zs : List (Row Int)) (hk : ∀ e ∈ zs, ∃ tk, e.2.2 = Value.int e.2.1 tk) : ElemsOf (intKind prog w) (ent (HI prog w) zs).toList := by
  intro e he
  unfold ent at he
  obtain ⟨z, hz, rfl⟩ := List.mem_map.mp he
  obtain ⟨tk, h⟩ := hk z hz
  dsimp only
  rw [h]
  exact ⟨⟨z.2.1, intKind_is prog w _ _, rfl⟩, rfl⟩
theorem all_scan (zs : List (Row Int)) (hk : ∀ e ∈ zs, ∃ tk, e.2.2 = Value.int e.2.1 tk) : (ent (HI prog w) zs).all (·.2.scannable) = true := by
  rw [Array.all_eq_true_iff_forall_mem]
  intro e he
  obtain ⟨_, h⟩ := elems_of (prog := prog) (w := w) zs hk e (Array.mem_toList_iff.mpr he)
  exact h
theorem is_int (k k' : Int) (tk : Nat) : (intKind prog w).is k (.int k' tk) = decide (k = k') := KeyKind.is_eq_decide (intKind_is prog w k' tk) k
theorem addI_ok (S : SI prog w s.heap a zs o ep t) (hfl : zs.length * 5 < t.mask * 3) (hn : zs.length < 306) {k : Int} {tk : Nat} {Q : Bool → Shared → Prop}
    (h : ∀ b h' zs' o' ep' t', Heap.SameBut a s.heap h' → SI prog w h' a zs' o' ep' t' → zs'.length * 5 < t'.mask * 3 →
      ((∃ e ∈ zs, e.2.1 = k) ∧ zs' = zs ∨ (zs'.map (·.2)).Perm ((k, Value.int k tk) :: zs.map (·.2))) → Q b { s with heap := h' }) :
    wpAny (model prog w) A (setAddHashed a (.int k tk) (HI prog w k)) Q E s := by
  unfold setAddHashed setAddHashedIn
  refine wpAny_holding (wpAny_bind (wpAny_setState_of S.get S.data S.tab.fits ?_))
  dsimp only
  have hsc : byScan (.int k tk) (ent (HI prog w) zs) = true := by
    unfold byScan
    rw [all_scan zs S.keys, ent_size, decide_eq_true (show zs.length < scanBound by unfold scanBound; omega)]
    rfl
  rw [hsc, if_pos rfl]
  refine wpAny_bind ?_
  unfold setAddByScan
  refine wpAny_bind (wpAny_rule (wpAny_bind (m := setScanFrom a (.int k tk) (HI prog w k) true (ent (HI prog w) zs).toList 0) (wpAny_setScanFrom_of (knd := intKind prog w) (intKind_is prog w k tk) S.get S.data S.tab.fits _ 0 (elems_of zs S.keys) ?_)))
  cases hfi : (ent (HI prog w) zs).toList.findIdx? (fun e => (intKind prog w).is k e.2) with
  | some j =>
    dsimp only
    refine wpAny_pure (wpAny_pure ?_)
    have hin : ∃ e ∈ zs, e.2.1 = k := by
      obtain ⟨hj, hp, _⟩ := List.findIdx?_eq_some_iff_getElem.mp hfi
      have hm := List.getElem_mem hj
      generalize (ent (HI prog w) zs).toList[j] = e at hp hm
      unfold ent at hm
      obtain ⟨z, hz, rfl⟩ := List.mem_map.mp hm
      obtain ⟨tz, ez⟩ := S.keys z hz
      dsimp only at hp
      rw [ez, is_int] at hp
      exact ⟨z, hz, (of_decide_eq_true hp).symm⟩
    exact h false s.heap zs o ep t (Heap.SameBut.refl a s.heap) S hfl (.inl ⟨hin, rfl⟩)
  | none =>
    have hnk : ∀ e ∈ zs, e.2.1 ≠ k := fun z hz hk => by
      have := List.findIdx?_eq_none_iff.mp hfi (HI prog w z.2.1, z.2.2) (by unfold ent; exact List.mem_map.mpr ⟨z, hz, rfl⟩)
      obtain ⟨tz, ez⟩ := S.keys z hz
      dsimp only at this
      rw [ez, is_int, decide_eq_true hk.symm] at this
      exact nomatch this
    dsimp only
    obtain ⟨m, hoc, hfree, hslot⟩ := free_slot S.tab (HI prog w k)
    obtain ⟨z1, z2, hz, hp, hris⟩ := put_eq (hf := HI prog w) S.tab (e := ((PP t.mask (HI prog w k) m).j, k, Value.int k tk)) hfree
    subst hz
    have hp : t.put (PP t.mask (HI prog w k) m).j = _ := hp
    have hmask : (z1 ++ z2).length + 1 ≤ t.mask := by
      have ok := S.tab.ok
      simp only [okm, List.mem_cons, List.not_mem_nil, or_false] at ok
      omega
    have T1 := put_tab (hf := HI prog w) S.tab hris (by have := j_le t.mask (HI prog w k) m; omega) hmask (m := m) rfl hoc
    have hent : insertAt (ent (HI prog w) (z1 ++ z2)) z1.length (HI prog w k, .int k tk) = ent (HI prog w) (z1 ++ ((PP t.mask (HI prog w k) m).j, k, .int k tk) :: z2) := insertAt_ent z1 z2 ((PP t.mask (HI prog w k) m).j, k, .int k tk)
    have hlay : layNew t (ent (HI prog w) (z1 ++ z2)) (HI prog w k) (.int k tk) = (ent (HI prog w) (z1 ++ ((PP t.mask (HI prog w k) m).j, k, .int k tk) :: z2), { t with place := plc (z1 ++ ((PP t.mask (HI prog w k) m).j, k, Value.int k tk) :: z2) }, false, false) := by
      unfold layNew
      rw [hslot]
      dsimp only
      rw [hp]
      dsimp only
      rw [hent]
      have fi := T1.fits
      unfold SetTable.orStandIn
      rw [fi]
      rfl
    rw [hlay]
    dsimp only
    refine wpAny_bind (wpAny_of_eq (a := ()) rfl ?_)
    rw [if_pos S.plain, hashByValue_scannable _ (x := .int k tk) rfl]
    refine wpAny_bind (wpAny_pure ?_)
    simp only [if_pos (show plainKind (.int k tk) = true from rfl)]
    generalize hzn : (z1 ++ ((PP t.mask (HI prog w k) m).j, k, Value.int k tk) :: z2) = zn at T1
    have hlen : zn.length = (z1 ++ z2).length + 1 := by rw [← hzn]; simp; omega
    have hperm : (zn.map (·.2)).Perm ((k, Value.int k tk) :: (z1 ++ z2).map (·.2)) := by
      rw [← hzn, List.map_append, List.map_cons, List.map_append]
      exact List.perm_middle
    have keysOf : ∀ {zs' : List (Row Int)}, (zs'.map (·.2)).Perm ((k, Value.int k tk) :: (z1 ++ z2).map (·.2)) → (∀ e ∈ zs', ∃ tk, e.2.2 = Value.int e.2.1 tk) ∧ (zs'.map fun e => e.2.1).Nodup := fun {zs'} hpm => by
      refine ⟨fun e he => ?_, ?_⟩
      · have hm : e.2 ∈ (k, Value.int k tk) :: (z1 ++ z2).map (·.2) := hpm.mem_iff.mp (List.mem_map.mpr ⟨e, he, rfl⟩)
        rcases List.mem_cons.mp hm with ee | hm
        · rw [ee]; exact ⟨tk, rfl⟩
        · obtain ⟨e', he', ee⟩ := List.mem_map.mp hm
          rw [← ee]; exact S.keys e' he'
      · have h1 := hpm.map (fun p : Int × Value => p.1)
        rw [List.map_map, List.map_cons, List.map_map] at h1
        refine (h1.nodup_iff).mpr ?_
        rw [List.nodup_cons]
        refine ⟨fun c => ?_, S.nd⟩
        obtain ⟨e, he, ee⟩ := List.mem_map.mp c
        exact hnk e he ee
    have hb := Heap.SameBut.update s.heap a (Obj.putSet (ent (HI prog w) zn) { t with place := plc zn })
    have g1 := Heap.get?_update_self (Obj.putSet (ent (HI prog w) zn) { t with place := plc zn }) S.get (by rw [putSet_of _ _ S.data]; rfl)
    rw [putSet_of _ _ S.data] at g1
    refine wpAny_bind (wpAny_storeSet_of S.get S.data ?_ (by rw [ent_size, hlen, sizeLine_eq]; omega))
    have hfull : SetTable.tooFull { t with place := plc zn } = decide (((z1 ++ z2).length + 1) * 5 ≥ t.mask * 3) := by
      unfold SetTable.tooFull SetTable.fill
      rw [show (SetTable.mk t.mask (plc zn) t.dummies t.finger t.led t.moves t.plain).place.size = (z1 ++ z2).length + 1 by show (plc _).size = _; rw [plc_size, hlen], S.tab.dum]
      rfl
    rw [hfull]
    by_cases hc : ((z1 ++ z2).length + 1) * 5 ≥ t.mask * 3
    · rw [decide_eq_true hc, if_pos (show (!false && true) = true from rfl)]
      obtain ⟨m1, m2, m3, m4⟩ := relay_size S.tab.ok hfl hc hn
      obtain ⟨zs', order, e1, e2, e3, e4, e5⟩ := laid_ok (hf := HI prog w) m1 zn (by omega) t.finger (t.movedTo (sizeAbove (grown ((z1 ++ z2).length + 1)) - 1)) t.led t.plain
      have hl2 : zs'.length = zn.length := by have := e3.length_eq; simpa using this
      have hre : relayAll { t with place := plc zn } (ent (HI prog w) zn) (grown (ent (HI prog w) zn).size) = (ent (HI prog w) zs', { mask := sizeAbove (grown ((z1 ++ z2).length + 1)) - 1, place := plc zs', dummies := #[], finger := t.finger, led := t.led, moves := t.movedTo (sizeAbove (grown ((z1 ++ z2).length + 1)) - 1), plain := t.plain }, false) := by
        unfold relayAll
        rw [ent_size, hlen]
        have hr : SetTable.relaid { t with place := plc zn } ((ent (HI prog w) zn).map (·.1)) (grown ((z1 ++ z2).length + 1)) = _ := e1
        rw [hr]
        dsimp only
        rw [e2]
        have cov : coversAll order ((z1 ++ z2).length + 1) = true := by
          unfold coversAll
          rw [List.isPerm_iff, ← hlen]
          exact e5
        rw [cov, e4.fits]
        rfl
      rw [hre]
      dsimp only
      refine wpAny_bind (wpAny_of_eq (a := ()) rfl ?_)
      have S1d : ({ o with data := .set (ent (HI prog w) zn) (ep + 1) { t with place := plc zn } } : Obj).data = .set (ent (HI prog w) zn) (ep + 1) { t with place := plc zn } := rfl
      have hb2 := Heap.SameBut.update (s.heap.update a (Obj.putSet (ent (HI prog w) zn) { t with place := plc zn })) a (Obj.putSet (ent (HI prog w) zs') { mask := sizeAbove (grown ((z1 ++ z2).length + 1)) - 1, place := plc zs', dummies := #[], finger := t.finger, led := t.led, moves := t.movedTo (sizeAbove (grown ((z1 ++ z2).length + 1)) - 1), plain := t.plain })
      have g2 := Heap.get?_update_self (Obj.putSet (ent (HI prog w) zs') { mask := sizeAbove (grown ((z1 ++ z2).length + 1)) - 1, place := plc zs', dummies := #[], finger := t.finger, led := t.led, moves := t.movedTo (sizeAbove (grown ((z1 ++ z2).length + 1)) - 1), plain := t.plain }) g1 (by rw [putSet_of _ _ S1d]; rfl)
      rw [putSet_of _ _ S1d] at g2
      obtain ⟨k1, k2⟩ := keysOf (e3.trans hperm)
      refine wpAny_bind (wpAny_storeSet_of (s := { s with heap := _ }) g1 S1d ?_ (by rw [ent_size, hl2, hlen, sizeLine_eq]; omega))
      exact wpAny_pure (wpAny_pure (h true _ zs' _ _ _ (hb.trans hb2) ⟨g2, S.cls, rfl, e4, S.plain, S.led, k1, k2⟩ (by rw [hl2, hlen]; exact m3) (.inr (e3.trans hperm))))
    · rw [decide_eq_false hc, if_neg (by decide)]
      obtain ⟨k1, k2⟩ := keysOf hperm
      exact wpAny_pure (wpAny_pure (h true _ zn _ _ _ hb ⟨g1, S.cls, rfl, T1, S.plain, S.led, k1, k2⟩ (by rw [hlen]; show _ < t.mask * 3; omega) (.inr hperm)))
end
end ST

/-! set() of a list of ints, and what sorted makes of it. -/
namespace ST
open PySem PySem.SetTable PySem.Spec PyProof.Rows PySem.W
variable {prog : Program} {w : World} {A : Around} {E : Value → Shared → Prop} {s : Shared}
theorem freshI {h : Heap} {a : Addr} (e : h.get? a = some (newSetO w)) : SI prog w h a [] (newSetO w) 0 (.fresh 0 0 (!BT w)) :=
  ⟨e, rfl, rfl, ⟨rfl, rfl, by show 7 ∈ _; decide, List.Pairwise.nil, (fun _ h => nomatch h), Nat.zero_le _, fun _ h => nomatch h⟩, rfl, rfl, (fun _ h => nomatch h), List.Pairwise.nil⟩
/-- the keys are those of the first i items -/
def UpI (ks : List Int) (i : Nat) (zs : List (Row Int)) : Prop := ∀ k, (∃ e ∈ zs, e.2.1 = k) ↔ k ∈ ks.take i
theorem UpI.step {ks : List Int} {i : Nat} {zs zs' : List (Row Int)} (U : UpI ks i zs) {k : Int} {x : Value} (hk : ks[i]? = some k) (h : (∃ e ∈ zs, e.2.1 = k) ∧ zs' = zs ∨ (zs'.map (·.2)).Perm ((k, x) :: zs.map (·.2))) : UpI ks (i + 1) zs' := by
  intro j
  rw [List.take_add_one, hk, Option.toList_some, List.mem_append, List.mem_singleton, ← U j]
  rcases h with ⟨hin, rfl⟩ | hp
  · exact ⟨.inl, fun c => c.elim id fun c => c ▸ hin⟩
  · have h1 := hp.map (fun p : Int × Value => p.1)
    rw [List.map_map, List.map_cons, List.map_map] at h1
    have e : ∀ ys : List (Row Int), (∃ e ∈ ys, e.2.1 = j) ↔ j ∈ ys.map ((fun p : Int × Value => p.1) ∘ fun x => x.2) := fun ys => by
      rw [List.mem_map]; exact Iff.rfl
    rw [e zs', h1.mem_iff, List.mem_cons, e zs]
    exact Or.comm
section
variable {R : Result → Shared → Prop} {I : Addr} {fp wr : List Addr} {G : Array GenState → Array GenState → Prop} {n : Nat} {P : Nat → Value → Prop} {St : Nat → Shared → Prop}
theorem loopI (W : WalksS prog w A.in1 I fp wr G n P St) (a : Addr) (ha : a ∉ fp) (ks : List Int) (hP : ∀ i v, P i v → ∃ k tk, ks[i]? = some k ∧ v = Value.int k tk) (hn : n < 306) :
    ∀ (r i : Nat) (s : Shared) (zs : List (Row Int)) (o : Obj) (ep : Nat) (t : SetTable), n - i = r → i ≤ n → St i s → SI prog w s.heap a zs o ep t → zs.length * 5 < t.mask * 3 → UpI ks i zs → zs.length ≤ i →
      (∀ s' zs' o' ep' t', Moved (a :: wr) G s s' → SI prog w s'.heap a zs' o' ep' t' → UpI ks n zs' → zs'.length ≤ n → R (.ok (.ret .none)) s') →
      codeAny (model prog w) A (.builtin "set.update.loop" ⟨[.ref a, .ref I], []⟩) R s := by
  have haw : a ∉ wr := fun h => ha (W.sub _ h)
  have up : ∀ b ∈ wr, b ∈ a :: wr := fun b hb => List.mem_cons_of_mem _ hb
  intro r
  induction r with
  | zero =>
    intro i s zs o ep t hr hi hst hS hl U hz hR
    obtain rfl : i = n := by omega
    refine codeAny_builtin PyProof.Rows.F.entry_set_update_loop (Around.under_plainId PyProof.Rows.F.plain_set_update_loop _ ▸ wpAny_bind (m := pyNext (.ref I)) (W.done s _ _ hst fun s' mv => ?_))
    exact wpAny_pure (hR s' zs o ep t (mv.mono up) (hS.move (mv.heap a _ haw hS.get)) U hz)
  | succ r ih =>
    intro i s zs o ep t hr hi hst hS hl U hz hR
    have hi1 : i + 1 ≤ n := by omega
    have hr1 : n - (i + 1) = r := by omega
    refine codeAny_builtin PyProof.Rows.F.entry_set_update_loop (Around.under_plainId PyProof.Rows.F.plain_set_update_loop _ ▸ wpAny_bind (m := pyNext (.ref I)) (W.item i s _ _ (by omega) hst fun v s' hPv hst' mv => ?_))
    obtain ⟨k, tk, hk, rfl⟩ := hP i v hPv
    have hS' := hS.move (mv.heap a _ haw hS.get)
    dsimp only
    refine wpAny_bind (wpAny_holding ?_)
    unfold setAdd
    refine wpAny_holding (wpAny_bind ((intKind prog w).pyHash (intKind_is prog w k tk) ?_))
    refine addI_ok (s := { s' with toks := s'.toks + 1 }) hS' hl (by omega) fun bb h' zs' o' ep' t' sb S1 l1 hz1 => ?_
    have hlen : zs'.length ≤ i + 1 := by
      rcases hz1 with ⟨_, rfl⟩ | hp
      · omega
      · have := hp.length_eq
        simp only [List.length_map, List.length_cons] at this
        omega
    have off : ∀ c, c ≠ a → ∀ oc, s'.heap.get? c = some oc → h'.get? c = some oc := fun c hc oc ec => by rw [sb.2 c hc]; exact ec
    refine wpAny_pure ⟨plainId_quiet PyProof.Rows.F.plain_set_update_loop _, ih (i + 1) _ zs' o' ep' t' hr1 hi1 (W.frame _ s' _ _ hst' (Nat.le_add_right _ _) fun c hc oc ec => off c (fun q => ha (q ▸ hc)) oc ec) S1 l1 (U.step hk hz1) hlen fun s2 zs2 o2 ep2 t2 mv2 S2 U2 l2 => ?_⟩
    refine hR s2 zs2 o2 ep2 t2 (Moved.trans W.gtrans ((mv.mono up).then_heap (Nat.le_add_right _ _) fun c oc hc ec => off c (fun q => hc (q ▸ List.mem_cons_self)) oc ec) mv2) S2 U2 l2
end
end ST

/-! sorted(set(..)) of ints, in plain values. -/
namespace ST
open PySem PySem.SetTable PySem.Spec PyProof.Rows PySem.W
variable {prog : Program} {w : World} {A : Around} {E : Value → Shared → Prop} {s : Shared}
section
variable {a : Addr} {zs : List (Row Int)} {o : Obj} {ep : Nat} {t : SetTable}
theorem sorted_setI [M.Tabs] (S : SI prog w s.heap a zs o ep t) (hh : A.handled = none) (hn : zs.length ≤ sizeLine) {Q : Value → Shared → Prop}
    (h : ∀ (out : List Value) (h' : Heap) (l : Addr) (e tk : Nat), out.Perm (zs.map (·.2.2)) → out.Pairwise (fun u v => numOf u ≤ numOf v) → s.heap.objs.size ≤ l → (∀ b o, s.heap.get? b = some o → h'.get? b = some o) → h'.get? l = some (seqObj "list" out.toArray e) → Q (.ref l) { s with heap := h', toks := tk }) :
    wpAny (model prog w) A (call (.builtin "sorted") [.ref a]) Q E s := by
  refine Calls.call_function_entry (A := A) kind_sorted plain_sorted entry_sorted (args_sorted1 _) ?_
  delta Builtin.«sorted»
  refine wpAny_bind (m := checkCount _ 1 1 _) (wpAny_pure (wpAny_bind (M.with_size (Nat.le_refl _) (kdu_collect (A := A.in1) (src_set (ep := ep)) hh S.sw hn fun h' tk acc hk hacc hge => ?_))))
  have hvs : acc.toList = walkE w a ep (ent (HI prog w) zs) := by
    refine List.ext_getElem? fun i => ?_
    by_cases c : i < acc.size
    · rw [hacc.2 i acc[i] (Array.getElem?_eq_getElem c), Array.getElem?_toList, Array.getElem?_eq_getElem c]
    · rw [List.getElem?_eq_none (by simpa using c), List.getElem?_eq_none (by rw [walk_len, ← hacc.1]; omega)]
  have hperm : acc.toList.Perm (zs.map (·.2.2)) := by rw [hvs]; exact walk_perm w a ep zs
  have hlen : acc.toList.length ≤ sizeLine := by rw [hperm.length_eq, List.length_map]; exact hn
  have isI : ∀ v ∈ acc.toList, ∃ n t, v = Value.int n t := fun v hv => by
    obtain ⟨e, he, rfl⟩ := List.mem_map.mp (hperm.mem_iff.mp hv)
    obtain ⟨tk, h⟩ := S.keys e he
    exact ⟨_, tk, h⟩
  refine wpAny_bind (wpAny_newList ?_ hlen)
  replace hge : s.heap.objs.size ≤ h'.objs.size := hge
  have hoL : (h'.push (seqObj "list" acc.toList.toArray 0)).get? h'.objs.size = some (seqObj "list" acc.toList.toArray 0) := Heap.get?_push_size _ rfl
  change wpAny _ _ _ _ _ { s with heap := h'.push (seqObj "list" acc.toList.toArray 0), toks := tk }
  refine wpAny_bind (wpAny_holding (wpAny_call_entry slot_list_sort ⟨_, hoL, rfl⟩ entry_list_sort ?_ (args_list_sort _)))
  refine TS.list_sort_gen (KD := fun kd => kd = oneType') (D := M.DI) (less := fun x y => decide (numOf x.1 < numOf y.1)) hoL hlen (fun s'' Q k h2 q => ?_) (fun s'' kd k hkd => by subst hkd; exact M.cmp_int) (fun v hv => ⟨rfl, isI v hv⟩) fun out hp hz => ⟨_, rfl, ?_⟩
  · have hi : IntsAre acc.toList (acc.toList.map numOf) := intsAre_map _ isI
    match acc.toList, hi, h2 with
    | v₁ :: v₂ :: rest, hi, _ =>
      rw [keyKind_ints hi]
      exact wpAny_pure (q _ rfl)
  · obtain ⟨hp1, hmem⟩ := M.out_vals hp
    obtain ⟨e, he⟩ := sortedHeap_at (vs := acc.toList) (out := out.map (·.2)) hoL
    refine wpAny_pure ⟨_, rfl, h (out.map (·.2)).toList _ _ e tk (hp1.trans hperm) ?_ hge (fun b o' hb => ?_) (by rw [Array.toArray_toList]; exact he)⟩
    · rw [Array.toList_map, List.pairwise_map]
      refine List.Pairwise.imp_of_mem (fun {p q} hp hq h => ?_) hz
      have h := of_decide_eq_false (show decide (numOf q.1 < numOf p.1) = false from h)
      rw [(hmem p hp).1, (hmem q hq).1] at h
      omega
    · have hb' := hk b o' hb
      rw [sortedHeap_old (Nat.ne_of_lt (Heap.lt_size hb')) (by rw [size_push']; exact Nat.lt_succ_of_lt (Heap.lt_size hb'))]
      exact Heap.get?_push_of_some _ hb'
end
end ST
namespace M
open PySem PySem.Spec PyProof.Rows L2
variable [Tabs]
section
variable {X : Cx} {x y : Str} {p1 p2 q1 q2 : Pos} {e : Expr} {t : TA}
end
theorem rvs_of_ints {K : PySem.W.Frag} {ι : List Addr} {H : Hp} : ∀ ns : List Int, RVs K ι H (ns.map PV.int) (ns.map V.int)
  | [] => .nil
  | n :: ns => .cons (.int n) (rvs_of_ints ns)
section
variable {X : Cx} {x y : Str} {p1 p2 q1 q2 : Pos} {e : Expr} {g : WA} {k : Nat}
end
end M

/-! xs[i] = v; the greater and the lesser of two; while. -/
namespace M
open PySem PySem.Spec PyProof.Rows L2
variable [Tabs]
theorem RVs.setAt {K : PySem.W.Frag} {ι : List Addr} {H : Hp} {p : PV} {v : V} (r : RV K ι H p v) : ∀ {ps : List PV} {vs : List V}, RVs K ι H ps vs → ∀ j, RVs K ι H (ps.set j p) (vs.set j v)
  | _, _, .nil, _ => .nil
  | _, _, .cons _ t, 0 => .cons r t
  | _, _, .cons q t, j + 1 => .cons q (RVs.setAt r t j)
section
variable {X : Cx} {o i value : Expr} {fo fi fv : WE} {pos pos' : Pos}
end
end M

/-! Comprehensions with two names for the items of pairs. -/
namespace M
open PySem PySem.Spec PyProof.Rows L2
variable [Tabs]
section
variable {X : Cx} {elt iter : Expr} {ifs : List Expr} {scope : Scope} {x y : Str} {pos px py tp : Pos} {tk : Nat} {wi : WI} {t : WT} {e : WE}
end
end M

/-! An item taken out of a list at its place. -/
namespace M
open PySem PySem.Spec PyProof.Rows L2
variable [Tabs]
end M

/-! tuple(range(..)). -/
namespace PySem
open Sem (wp)
section
variable {prog : Program} {w : World} {A : Around} {E : Value → Shared → Prop} {s : Shared} {r : Addr} {a b c : Int} {t u v : Tok} {n : Nat}
end
end PySem
namespace M
open PySem PySem.Spec PyProof.Rows L2
variable [Tabs]
section
variable {X : Cx} {p1 p2 q1 q2 : Pos} {e : Expr} {t : TA}
end
section
variable {X : Cx} {p1 p2 q1 q2 : Pos} {e : Expr} {g : WA} {k : Nat}
end
end M

/-! A tuple, so many times. -/
namespace PySem
open Sem (wp)
end PySem
namespace M
open PySem PySem.Spec PyProof.Rows L2
variable [Tabs]
end M

/-! int(), str(), ~, texts cut and joined, stars within a display, lists as what is told apart. -/
namespace M
open PySem PySem.Spec PyProof.Rows L2
variable [Tabs]
section
variable {X : Cx}
def pInt : PSp
  | [.int i], S, Q => Q (.int i) S
  | [.bl k], S, Q => Q (.int (if k then 1 else 0)) S
  | [.str a], S, Q => ∃ n, PySem.intText? a = some n ∧ a.length ≤ 640 ∧ Q (.int n) S
  | _, _, _ => False
theorem b_int : CR1 X (.type "int") pInt := ⟨_, CallR.or call_int1 call_int_str, fun ι H S xs vs Qp Q s rx h k => by
  match xs, rx, h with
  | [.int i], rx, h =>
    obtain ⟨v, rfl, r⟩ := rx.one
    cases r
    exact .inl (.inl ⟨i, rfl, k ι H S _ _ .refl s (.int _) h⟩)
  | [.bl b], rx, h =>
    obtain ⟨v, rfl, r⟩ := rx.one
    cases r
    exact .inl (.inr ⟨b, rfl, k ι H S _ _ .refl s (.int _) h⟩)
  | [.str a], rx, ⟨n, h1, h2, h⟩ =>
    obtain ⟨v, rfl, r⟩ := rx.one
    cases r
    exact .inr ⟨a, n, rfl, h1, h2, k ι H S _ _ .refl s (.int _) h⟩⟩
def pStr : PSp
  | [.int i], S, Q => i.natAbs.log2 < 1920 ∧ Q (.str (toString i)) S
  | _, _, _ => False
theorem b_str : CR1 X (.type "str") pStr := ⟨_, call_str_int, fun ι H S xs vs Qp Q s rx h k => by
  match xs, rx, h with
  | [.int i], rx, ⟨h1, h⟩ =>
    obtain ⟨v, rfl, r⟩ := rx.one
    cases r
    exact ⟨i, rfl, h1, k ι H S _ _ .refl s (.str _) h⟩⟩
def pSplit : PM
  | .str a, [.str b], S, Q => (b.length == 0) = false ∧ a.length + 2 ≤ sizeLine ∧ Q (.ref S.length) (S ++ [.lst ((Txt.split a b).map PV.str)])
  | _, _, _, _ => False
theorem RVs.strs {K : PySem.W.Frag} {ι : List Addr} {H : Hp} : ∀ ys : List Str, RVs K ι H (ys.map PV.str) (ys.map V.str)
  | [] => .nil
  | y :: ys => .cons (.str y) (RVs.strs ys)
theorem m_split : MT1 X "str" "str.split" pSplit := ⟨_, mt_split, fun ι H S x v xs vs Qp Q s rx rs h k => by
  match x, xs, rx, rs, h with
  | .str a, [.str b], rx, rs, ⟨h1, h2, q⟩ =>
    cases rx
    obtain ⟨w, rfl, ry⟩ := rs.one
    cases ry
    exact ⟨a, b, rfl, rfl, h1, h2, new_list s (RVs.strs _) k q⟩⟩
theorem RVs.strs_inv {K : PySem.W.Frag} {ι : List Addr} {H : Hp} : ∀ {ys : List Str} {vs : List V}, RVs K ι H (ys.map PV.str) vs → vs = ys.map V.str
  | [], _, .nil => rfl
  | y :: ys, _, .cons r t => by cases r; rw [RVs.strs_inv t]; rfl
def pJoin : PM
  | .str a, [p], S, Q => ∃ ys : List Str, Sq S p (ys.map PV.str) ∧ (ys.map (·.length)).sum + ys.length * a.length ≤ 16777216 ∧ Q (.str (Txt.join a ys)) S
  | _, _, _, _ => False
theorem m_join : MT1 X "str" "str.join" pJoin := ⟨_, mt_join, fun ι H S x v xs vs Qp Q s rx rs h k => by
  match x, xs, rx, rs, h with
  | .str a, [p], rx, rs, ⟨ys, h1, h2, q⟩ =>
    cases rx
    obtain ⟨w, rfl, ry⟩ := rs.one
    obtain ⟨b, ws, rfl, h3, h4⟩ := s.sq ry h1
    rw [h4.strs_inv] at h3
    exact ⟨a, b, ys, rfl, rfl, h3, h2, k ι H S _ _ .refl s (.str _) q⟩⟩
end
/-! ### stars -/
section
variable {X : Cx} {e : Expr} {es : List Expr} {te : TE} {t : TA} {p : Pos}
end
/-! ### a list or a tuple told apart -/
end M

/-! ~, texts written of parts, tuple(range(.., ..)), places in a list. -/
namespace M
open PySem PySem.Spec PyProof.Rows L2
variable [Tabs]
def tJs : List TE → Str → TE
  | [], acc => fun _ H Q => acc.length ≤ sizeLine ∧ Q (.str acc) H
  | t :: ts, acc => fun σ H Q => t σ H fun x H1 => ∃ y, x = .str y ∧ (acc ++ y).length ≤ sizeLine ∧ tJs ts (acc ++ y) σ H1 Q
inductive PJs (X : Cx) : List Expr → List TE → Prop
  | nil : PJs X [] []
  | cons {e : Expr} {t : TE} {es : List Expr} {ts : List TE} : PE X e t → PJs X es ts → PJs X (e :: es) (t :: ts)
section
variable {X : Cx} {pos : Pos}
theorem joined {pins : List (Addr × Obj)} {σ : L2.St} {Q : VK} : ∀ {es : List Expr} {ts : List TE}, PJs X es ts → ∀ (acc : Str) (s : Shared) (H : Hp), Inv X pins σ H s → tJs ts acc σ H Q → wpAny (model X.prog X.w) X.A (joinParts acc (es.map fun e => eval e X.env)) (EP X pins σ Q) X.xe s
  | _, _, .nil, acc, s, H, I, ⟨h1, h2⟩ => joinParts_nil ⟨.str acc, H, I.tok _, ⟨_, rfl⟩, h2⟩ h1
  | _, _, .cons (e := e) h t, acc, s, H, I, q => by
    refine joinParts_cons (thn (h pins s σ H _ I q) fun u s1 ⟨x, H1, I1, r1, q1⟩ => ?_)
    obtain ⟨y, rfl, hy, q1⟩ := q1
    obtain ⟨tk, rfl⟩ := r1
    exact ⟨hy, joined t _ s1 H1 I1 q1⟩
end
inductive JJs (X : Cx) : List Expr → List WE → Prop
  | nil : JJs X [] []
  | cons {e : Expr} {f : WE} {es : List Expr} {fs : List WE} : JE X e f → JJs X es fs → JJs X (e :: es) (f :: fs)
section
variable {X : Cx} {pos : Pos}
end
/-! ### tuple(range(a, b)) -/
section
variable {X : Cx} {p1 p2 q1 q2 : Pos} {e e2 : Expr} {t : TA}
end
section
variable {X : Cx} {p1 p2 q1 q2 : Pos} {e e2 : Expr} {g : WA} {k : Nat}
end
end M

/-! A comprehension with two names as its target, over pairs that may be lists. -/
namespace M
open PySem PySem.Spec PyProof.Rows L2
variable [Tabs]
section
variable {X : Cx} {elt iter : Expr} {ifs : List Expr} {scope : Scope} {x y : Str} {pos px py tp : Pos} {tk : Nat} {wi : WI} {t : WT} {e : WE}
end
end M

/-! Names of the module that stand for a tuple of texts; a place in a list. -/
namespace M
open PySem PySem.Spec PyProof.Rows L2
variable [Tabs]
/-- a tuple among the module's own objects -/
def KT (K : PySem.W.Frag) (a : Addr) (vs : List V) : Prop := ∃ (o : Obj) (its : Array Value) (n : Nat), K.lookup a = some o ∧ (o.cls = .type "tuple" ∧ o.dict = none) ∧ o.data = .seq its n ∧ its.size ≤ sizeLine ∧ Vals vs its.toList
theorem j_gtup {X : Cx} {x : Str} {ys : List Str} {pos : Pos} (lo : Loose) (h : ∃ a, X.mg x = some (.ref a) ∧ KT X.K a (ys.map V.str)) (hg : Gl X x := by rfl) (hd : (x == ("__debug__" : Str)) = false := by decide) : JE X (.Name x pos) (wC (.tup (ys.map PV.str))) := by
  obtain ⟨a, h, hk⟩ := h
  exact ⟨pe_imp (pe_glob (v := .ref a) hg h rfl hd) fun σ H Q ⟨ι, fr, S, Qp, hF, hS, q, k⟩ => k ι H S _ _ .refl hS (.tup (.inr ⟨lo, .inr hk⟩) (RVs.strs ys)) q⟩
def pIndexL : PM
  | .ref n, [y], S, Q => ∃ xs j z, SL S n xs ∧ flatP y = true ∧ xs.all flatP = true ∧ xs[j]? = some z ∧ eqP z y = true ∧ (∀ m z', m < j → xs[m]? = some z' → eqP z' y = false) ∧ Q (.int (j : Nat)) S
  | _, _, _, _ => False
end M

/-! Three names at once. -/
namespace M
open PySem PySem.Spec PyProof.Rows L2
variable [Tabs]
theorem Vals.three {x y z : V} {us : List Value} (r : Vals [x, y, z] us) : ∃ u1 u2 u3, us = [u1, u2, u3] ∧ RelV x u1 ∧ RelV y u2 ∧ RelV z u3 := by
  cases r with
  | cons p q =>
    obtain ⟨u, v, rfl, a, b⟩ := Vals.two q
    exact ⟨_, _, _, rfl, p, a, b⟩
theorem RVs.three {K : PySem.W.Frag} {ι : List Addr} {H : Hp} {p q r : PV} {vs : List V} (h : RVs K ι H [p, q, r] vs) : ∃ v w u, vs = [v, w, u] ∧ RV K ι H p v ∧ RV K ι H q w ∧ RV K ι H r u := by
  cases h with
  | cons a t =>
    obtain ⟨w, u, rfl, b, c⟩ := t.two
    exact ⟨_, _, _, rfl, a, b, c⟩
end M

/-! A thing put into a list at a place. -/
namespace M
open PySem PySem.Spec PyProof.Rows L2
variable [Tabs]
end M

/-! `name += e` of ints, and a try whose suite raises nothing. -/
namespace M
open PySem PySem.Spec PyProof.Rows L2
variable [Tabs]
section
variable {X : Cx} {pos : Pos} {e : Expr} {fe : WE}
end
end M

/-! AN EXCEPTION ON ITS WAY: its own object, its dict, the traceback's newest entry; the frames that it passes. -/
namespace L2
open PySem PySem.Spec PyProof.Rows

/-- the traceback of an exception: none yet, or its newest entry with what stands in its place of flight -/
def TbOk (H : Hp) (h : Heap) (lo ea : Addr) (vs : Array Value) : Option Value → Prop
  | none => vs[1]? = some .none
  | some f => ∃ T oT ts, vs[1]? = some (.ref T) ∧ lo ≤ T ∧ H T = none ∧ T ≠ ea ∧ h.get? T = some oT ∧ oT.data = .fields ts ∧ ts[3]? = some f
/-- the exception at ea, made behind lo: its class, its dict, its traceback -/
def ExO (H : Hp) (h : Heap) (lo ea : Addr) (cls : Value) (dx : Addr) (fl : Option Value) : Prop :=
  ∃ oe vs, h.get? ea = some oe ∧ oe.cls = cls ∧ oe.dict = some dx ∧ oe.data = .fields vs ∧ lo ≤ ea ∧ H ea = none ∧ TbOk H h lo ea vs fl
/-- what noting changes: the slots of the frames at fs, records made behind lo -/
structure Nt (H : Hp) (fs : List Addr) (lo : Nat) (h h' : Heap) : Prop where
  keep : ∀ b o, h.get? b = some o → b ∉ fs → (b < lo ∨ H b ≠ none ∨ ∀ vs, o.data ≠ .fields vs) → h'.get? b = some o
  slot : ∀ b o, h.get? b = some o → b ∈ fs → (∀ vs, o.data ≠ .fields vs) → ∃ sl, h'.get? b = some { o with slots := sl }
  there : ∀ b o, h.get? b = some o → ∃ o', h'.get? b = some o'
theorem Nt.refl {H : Hp} {fs : List Addr} {lo : Nat} {h : Heap} : Nt H fs lo h h := ⟨fun _ _ e _ _ => e, fun _ o e _ _ => ⟨o.slots, e⟩, fun _ o e => ⟨o, e⟩⟩
theorem Nt.trans {H : Hp} {fs : List Addr} {lo : Nat} {h h1 h2 : Heap} (a : Nt H fs lo h h1) (b : Nt H fs lo h1 h2) : Nt H fs lo h h2 :=
  ⟨fun c o e hf hl => b.keep c o (a.keep c o e hf hl) hf hl, fun c o e hf hn => by
    obtain ⟨sl, e1⟩ := a.slot c o e hf hn
    obtain ⟨sl', e2⟩ := b.slot c { o with slots := sl } e1 hf hn
    exact ⟨sl', e2⟩, fun c o e => by
    obtain ⟨o', e1⟩ := a.there c o e
    exact b.there c o' e1⟩
theorem Nt.funs {H : Hp} {fs : List Addr} {lo : Nat} {h h' base : Heap} {l : List Env} (a : Nt H fs lo h h') (f : h.FunFrames base l) : h'.FunFrames base l :=
  f.of_keeps fun b o e hn => by
    by_cases hb : b ∈ fs
    · obtain ⟨sl, e'⟩ := a.slot b o e hb hn
      exact ⟨_, e', rfl⟩
    · exact ⟨o, a.keep b o e hb (.inr (.inr hn)), rfl⟩
theorem dict_map (f : Array Value → Array Value) (o : Obj) : (Obj.mapFields f o).dict = o.dict := by
  obtain ⟨a, b, c, d⟩ := o
  cases c <;> rfl
section
variable {M : Model} {A : Around} {E : Value → Shared → Prop} {s : Shared} {base : Heap} {env : Env} {outer : List Env} {L lo ea dx : Addr} {cls : Value} {fl : Option Value} {Q : Unit → Shared → Prop} {H : Hp}

/-- a new entry ahead of the traceback -/
theorem entry_new {oe : Obj} {vs : Array Value} {head : Value} {hadNext : Bool} (hfr : A.frames = some (env :: outer)) (hl : s.heap.FunFrames base (env :: outer)) (hf : env.frame = some L) (he : s.heap.get? ea = some oe)
    (hc : oe.cls = cls) (hx : oe.dict = some dx) (hd : oe.data = .fields vs) (hlo : lo ≤ ea) (hn : H ea = none) (fr : ∀ b, s.heap.objs.size ≤ b → H b = none) (hsz : 1 < vs.size) (h : ∀ h', Nt H (frs (env :: outer)) lo s.heap h' → ExO H h' lo ea cls dx (some (rawInt L)) → Q () { s with heap := h' }) :
    wpAny M A (do let a ← frameOf env; let pl ← entryPlaceOf L hadNext; let b ← EntryCells.newEntry head a .none (rawInt L) .none pl; setField (.ref ea) 1 b) Q E s := by
  have nf : ea ∉ frs (env :: outer) := fun hm => by
    obtain ⟨_, o, ho, hnf⟩ := hl.mem hm
    rw [he] at ho
    cases ho
    exact hnf vs hd
  refine wpAny_bind (wpAny_frameOf_fun hfr hl hf fun h1 k1 => wpAny_bind (wpAny_entryPlaceOf fun pl hpl => ?_))
  unfold EntryCells.newEntry newFields
  refine wpAny_bind (wpAny_newObj_type ?_ (hpl.sizeOk5 _ _ _ _ _))
  have e1 : h1.get? ea = some oe := (k1.2.1 ea nf).trans he
  generalize htb : ({ cls := .type "traceback", dict := none, data := .fields ([head, .ref L, .none, rawInt L, .none] ++ (if pl.isEmpty then List.replicate 6 Value.none else pl)).toArray } : Obj) = tb
  have e2 : (h1.push tb).get? ea = some oe := Heap.get?_push_of_some tb e1
  refine wpAny_setField e2 hd hsz (h _ ?_ ?_)
  · have new : ∀ b o, h1.get? b = some o → b ≠ ea → ((h1.push tb).update ea (Obj.mapFields (·.setIfInBounds 1 (Value.ref h1.objs.size)))).get? b = some o := fun b o e n => by
      rw [Heap.get?_update_other _ _ (Ne.symm n)]
      exact Heap.get?_push_of_some tb e
    have stay : ∀ b o, s.heap.get? b = some o → (b < lo ∨ H b ≠ none ∨ ∀ vs, o.data ≠ .fields vs) → b ≠ ea := fun b o e hb z => by
      subst z
      rcases hb with hb | hb | hb
      · exact absurd hb (Nat.not_lt.mpr hlo)
      · exact hb hn
      · rw [he] at e; cases e; exact hb vs hd
    refine ⟨fun b o e hb hn => new b o ((k1.2.1 b hb).trans e) (stay b o e hn), fun b o e hb hn => ?_, fun b o e => ?_⟩
    · obtain ⟨sl, e'⟩ := k1.2.2 b o e
      exact ⟨sl, new b _ e' (stay b o e (.inr (.inr hn)))⟩
    · by_cases z : b = ea
      · subst z
        exact ⟨_, Heap.get?_update_self _ e2 (Obj.isFreed_of_fields (Obj.data_mapFields hd _))⟩
      · obtain ⟨sl, e'⟩ := k1.2.2 b o e
        exact ⟨_, new b _ e' z⟩
  · have nT : h1.objs.size ≠ ea := Nat.ne_of_gt (Heap.lt_size e1)
    have gT : ((h1.push tb).update ea (Obj.mapFields (·.setIfInBounds 1 (Value.ref h1.objs.size)))).get? h1.objs.size = some tb := by
      rw [Heap.get?_update_other _ _ (Ne.symm nT)]
      exact Heap.get?_push_size h1 (by rw [← htb]; rfl)
    refine ⟨_, _, Heap.get?_update_self _ e2 (Obj.isFreed_of_fields (Obj.data_mapFields hd _)), (Obj.cls_mapFields _ _).trans hc, ?_, Obj.data_mapFields hd _, hlo, hn, h1.objs.size, tb, _, by simp [hsz], Nat.le_trans hlo (Nat.le_of_lt (Heap.lt_size e1)), fr _ (by rw [k1.1]; exact Nat.le_refl _), nT, gT, by rw [← htb], ?_⟩
    · rw [← hx]; exact dict_map _ _
    · rcases hpl with rfl | ⟨_, _, _, _, _, _, _, rfl⟩ <;> simp
/-- the exception is noted in a frame -/
theorem note_ok (fr : ∀ b, s.heap.objs.size ≤ b → H b = none) (hfr : A.frames = some (env :: outer)) (hl : s.heap.FunFrames base (env :: outer)) (hf : env.frame = some L) (x : ExO H s.heap lo ea cls dx fl) (hfl : fl = none ∨ fl = some .none ∨ fl = some (rawInt L))
    (h : ∀ h', Nt H (frs (env :: outer)) lo s.heap h' → ExO H h' lo ea cls dx (some (rawInt L)) → Q () { s with heap := h' }) : wpAny M A (noteFrame (.ref ea) env) Q E s := by
  obtain ⟨oe, vs, he, hc, hx, hd, hlo, hn, ht⟩ := id x
  unfold noteFrame
  simp only [hf]
  cases fl with
  | none =>
    refine wpAny_bind (wpAny_field he hd ht ?_)
    rw [if_neg (by decide)]
    exact entry_new hfr hl hf he hc hx hd hlo hn fr (Array.getElem?_eq_some_iff.mp ht).1 h
  | some f =>
    obtain ⟨T, oT, ts, h1, lT, uT, nT, hT, hdT, h3⟩ := ht
    refine wpAny_bind (wpAny_field he hd h1 ?_)
    rw [if_pos (show (Value.ref T != Value.none) = true from by simp)]
    refine wpAny_bind (wpAny_field hT hdT h3 ?_)
    rcases hfl with z | z | z
    · cases z
    · cases z
      rw [if_neg (show ¬ ((Value.none == rawInt L) = true) from by simp [rawInt])]
      refine wpAny_bind (wpAny_setField hT hdT (Array.getElem?_eq_some_iff.mp h3).1 ?_)
      have off : ∀ b, b ≠ T → (s.heap.update T (Obj.mapFields (·.setIfInBounds 3 Value.none))).get? b = s.heap.get? b := fun b n => Heap.get?_update_other _ _ (Ne.symm n)
      have nt : Nt H (frs (env :: outer)) lo s.heap (s.heap.update T (Obj.mapFields (·.setIfInBounds 3 Value.none))) := by
        have ne : ∀ b o, s.heap.get? b = some o → (b < lo ∨ H b ≠ none ∨ ∀ vs, o.data ≠ .fields vs) → b ≠ T := fun b o e hb z => by
          subst z
          rcases hb with hb | hb | hb
          · exact absurd hb (Nat.not_lt.mpr lT)
          · exact hb uT
          · rw [hT] at e; cases e; exact hb ts hdT
        refine ⟨fun b o e _ hb => (off b (ne b o e hb)).trans e, fun b o e _ hb => ⟨o.slots, (off b (ne b o e (.inr (.inr hb)))).trans e⟩, fun b o e => ?_⟩
        by_cases z : b = T
        · subst z
          exact ⟨_, Heap.get?_update_self _ hT (Obj.isFreed_of_fields (Obj.data_mapFields hdT _))⟩
        · exact ⟨o, (off b z).trans e⟩
      exact entry_new hfr (nt.funs hl) hf ((off ea (Ne.symm nT)).trans he) hc hx hd hlo hn (fun b hb => fr b (by rw [Heap.size_update] at hb; exact hb)) (Array.getElem?_eq_some_iff.mp h1).1 fun h' n' x' => h h' (nt.trans n') x'
    · cases z
      rw [if_pos (show (rawInt L == rawInt L) = true from beq_self_eq_true _)]
      exact wpAny_pure (h _ .refl x)
/-- its flight is set -/
theorem flight_ok {f g : Value} {o : Option Addr} (ho : (o.elim Value.none fun f => rawInt f) = g) (x : ExO H s.heap lo ea cls dx (some f)) {fs : List Addr} (h : ∀ h', Nt H fs lo s.heap h' → ExO H h' lo ea cls dx (some g) → Q () { s with heap := h' }) : wpAny M A (setFlight (.ref ea) o) Q E s := by
  obtain ⟨oe, vs, he, hc, hx, hd, hlo, hn, T, oT, ts, h1, lT, uT, nT, hT, hdT, h3⟩ := x
  have hz := (Array.getElem?_eq_some_iff.mp h3).1
  unfold setFlight
  refine wpAny_bind (wpAny_field he hd h1 ?_)
  rw [if_pos (show (Value.ref T != Value.none) = true from by simp), ho]
  have off : ∀ b, b ≠ T → (s.heap.update T (Obj.mapFields (·.setIfInBounds 3 g))).get? b = s.heap.get? b := fun b n => Heap.get?_update_other _ _ (Ne.symm n)
  have new := Heap.get?_update_self (Obj.mapFields (·.setIfInBounds 3 g)) hT (Obj.isFreed_of_fields (Obj.data_mapFields hdT _))
  have ne : ∀ b o, s.heap.get? b = some o → (b < lo ∨ H b ≠ none ∨ ∀ vs, o.data ≠ .fields vs) → b ≠ T := fun b o e hb z => by
    subst z
    rcases hb with hb | hb | hb
    · exact absurd hb (Nat.not_lt.mpr lT)
    · exact hb uT
    · rw [hT] at e; cases e; exact hb ts hdT
  refine wpAny_setField hT hdT hz (h _ ⟨fun b o e _ hb => (off b (ne b o e hb)).trans e, fun b o e _ hb => ⟨o.slots, (off b (ne b o e (.inr (.inr hb)))).trans e⟩, fun b o e => ?_⟩ ⟨oe, vs, (off ea (Ne.symm nT)).trans he, hc, hx, hd, hlo, hn, T, _, _, h1, lT, uT, nT, new, Obj.data_mapFields hdT _, by simp [hz]⟩)
  by_cases z : b = T
  · subst z; exact ⟨_, new⟩
  · exact ⟨o, (off b z).trans e⟩
/-- it leaves a frame -/
theorem leave_ok (fr : ∀ b, s.heap.objs.size ≤ b → H b = none) (hfr : A.frames = some (env :: outer)) (hl : s.heap.FunFrames base (env :: outer)) (hf : env.frame = some L) (x : ExO H s.heap lo ea cls dx fl) (hfl : fl = none ∨ fl = some .none ∨ fl = some (rawInt L))
    (h : ∀ h', Nt H (frs (env :: outer)) lo s.heap h' → ExO H h' lo ea cls dx (some .none) → Q () { s with heap := h' }) : wpAny M A (leaving env (.ref ea)) Q E s := by
  unfold leaving
  exact wpAny_bind (note_ok fr hfr hl hf x hfl fun h1 n1 x1 => flight_ok (g := .none) (o := none) rfl x1 fun h2 n2 x2 => h h2 (n1.trans n2) x2)
end
end L2

/-! AN EXCEPTION ON ITS WAY through a def's body: how it lies there, how it leaves, how it comes out of a call. -/
namespace L2
open PySem PySem.Spec PyProof.Rows

theorem ExO.mono {H : Hp} {h : Heap} {lo lo' ea dx : Addr} {cls : Value} {fl : Option Value} (x : ExO H h lo ea cls dx fl) (l : lo' ≤ lo) : ExO H h lo' ea cls dx fl := by
  obtain ⟨oe, vs, he, hc, hx, hd, hlo, hn, ht⟩ := x
  refine ⟨oe, vs, he, hc, hx, hd, Nat.le_trans l hlo, hn, ?_⟩
  cases fl with
  | none => exact ht
  | some f =>
    obtain ⟨T, oT, ts, h1, lT, r⟩ := ht
    exact ⟨T, oT, ts, h1, Nat.le_trans l lT, r⟩
/-- an exception in a body: made behind lo, all that the body stands on lies ahead of lo -/
structure Fly (X : Cx) (pins : List (Addr × Obj)) (σ : St) (H : Hp) (s : Shared) (lo ea : Addr) (cls : Value) (dx : Addr) (fl : Option Value) : Prop where
  inv : Inv X pins σ H s
  ex : ExO H s.heap lo ea cls dx fl
  lo0 : X.s_0.heap.objs.size ≤ lo
  lol : X.env.locals < lo
  loc : ∀ x c, X.env.cells.lookup x = some c → c < lo
  lop : ∀ p ∈ X.pn ++ pins, p.1 < lo
section
variable {X : Cx} {pins : List (Addr × Obj)} {σ : St} {H : Hp} {s : Shared} {lo ea dx : Addr} {cls : Value} {fl fl' : Option Value} {h' : Heap}
theorem HOk.nt {P : Program} {w : World} {fs : List Addr} {h h' : Heap} (x : HOk P w H h) (n : Nt H fs lo h h') (nf : ∀ b ∈ fs, H b = none) : HOk P w H h' := fun b u e =>
  (x b u e).stay (fun c v hc q => by
    have hH : H c ≠ none := by
      rcases hc with rfl | hc
      · rw [e]; simp
      · rw [hc]; simp
    exact n.keep c v q (fun z => hH (nf c z)) (.inr (.inl hH))) (fun _ q => q) fun _ _ q => q
/-- it is noted, its flight is set -/
theorem Fly.nt (f : Fly X pins σ H s lo ea cls dx fl) (n : Nt H (frs X.stack) lo s.heap h') (x : ExO H h' lo ea cls dx fl') : Fly X pins σ H { s with heap := h' } lo ea cls dx fl' := by
  have I := f.inv
  have nf := I.stkFree
  have sub : ∀ b, b ≠ X.env.locals → b ∉ X.fs → b ∉ frs X.stack := fun b h1 h2 z => (List.mem_cons.mp (I.stkSub b z)).elim h1 h2
  have dat : ∀ b ∈ frs X.stack, ∀ o, s.heap.get? b = some o → ∀ vs, o.data ≠ .fields vs := fun b hb o e => by
    obtain ⟨_, o', e', hn⟩ := I.stack.mem hb
    rw [e] at e'; cases e'; exact hn
  have up : ∀ b ∈ X.fs, b ∈ frs X.stack := fun b hb => by
    rcases I.ok.stk with e | ⟨e, hf⟩
    · rw [e]; exact hb
    · rw [e]
      unfold frs
      rw [List.filterMap_cons, hf]
      exact List.mem_cons_of_mem _ hb
  refine ⟨I.step (ch := (List.range s.heap.objs.size).filter fun b => decide (lo ≤ b)) (g' := s.gens) (d' := s.drawn) (t' := s.toks) (fun b hb => ?_) (fun b o h1 h2 h3 e e0 => ?_) (fun b o h1 h2 h3 e e0 => ?_) (fun _ _ _ _ e => e) (fun b o _ e => n.there b o e) (fun _ _ e => e) (fun _ _ _ e => e) (fun b ps e => ⟨#[], by rw [e]; simp⟩) (fun m hm => ?_) (HOk.nt I.hok n nf) I.bare, x, f.lo0, f.lol, f.loc, f.lop⟩
  · have hl : lo ≤ b := of_decide_eq_true (List.mem_filter.mp hb).2
    exact ⟨.inr (Nat.le_trans f.lo0 hl), Nat.ne_of_gt (Nat.lt_of_lt_of_le f.lol hl), fun y c e => Nat.ne_of_lt (Nat.lt_of_lt_of_le (f.loc y c e) hl), fun p hp => Nat.ne_of_lt (Nat.lt_of_lt_of_le (f.lop p hp) hl)⟩
  · have hb : b < lo := by
      rcases Nat.lt_or_ge b lo with z | z
      · exact z
      · exact absurd (List.mem_filter.mpr ⟨List.mem_range.mpr (Heap.lt_size e), decide_eq_true z⟩) h3
    exact n.keep b o e (sub b h1 h2) (.inl hb)
  · exact n.slot b o e (up b h2) (dat b (up b h2) o e)
  · by_cases hm' : X.env.locals ∈ frs X.stack
    · obtain ⟨o, es, ep, ho, r⟩ := hm
      obtain ⟨sl, e'⟩ := n.slot _ o ho hm' (dat _ hm' o ho)
      exact ⟨_, es, ep, e', r⟩
    · obtain ⟨o, es, ep, ho, r⟩ := hm
      exact ⟨o, es, ep, n.keep _ o ho hm' (.inl f.lol), r⟩
end
/-- what is wanted of an exception in a body: W of its class, its dict, the names' values, the heap -/
abbrev XW := Value → Addr → St → Hp → Prop
/-- an exception that leaves the code of this body -/
def Out (X : Cx) (W : XW) (e : Value) (s : Shared) : Prop :=
  ∃ σ H lo ea cls dx fl, e = .ref ea ∧ Fly X [] σ H s lo ea cls dx fl ∧ (fl = none ∨ fl = some .none ∨ fl = some (rawInt X.env.locals)) ∧ W cls dx σ H
theorem Out.imp {X : Cx} {W W' : XW} {e : Value} {s : Shared} (h : ∀ cls dx σ H, W cls dx σ H → W' cls dx σ H) : Out X W e s → Out X W' e s := fun ⟨σ, H, lo, ea, cls, dx, fl, he, hf, hl, hw⟩ => ⟨σ, H, lo, ea, cls, dx, fl, he, hf, hl, h _ _ _ _ hw⟩
/-- how an exception lies behind a call -/
def CX1 (P : Program) (w : World) : CXT := fun outer H s E e s' =>
  ∃ ea cls dx H', e = .ref ea ∧ s'.os = s.os ∧ AllBare s'.gens ∧ Un (frs outer) [] H H' s.heap s'.heap ∧ HOk P w H' s'.heap ∧ ExO H' s'.heap s.heap.objs.size ea cls dx (some .none) ∧ E cls (some dx) H'
/-- the def's own frame is the uppermost one -/
def Own (X : Cx) : Prop := X.stack = X.env :: X.outer ∧ X.env.frame = some X.env.locals
section
variable {X : Cx} {W : XW} {e : Value} {s : Shared}
/-- loops hand it on -/
theorem Out.passes (o : Own X) : PassesOwn (model X.prog X.w) X.A X.env (Out X W) := by
  rintro _ s ⟨σ, H, lo, ea, cls, dx, fl, rfl, f, hl, hw⟩
  have I := f.inv
  have hfr : X.A.frames = some (X.env :: X.outer) := by rw [← o.1]; exact I.ok.frames
  have hl1 : s.heap.FunFrames X.base (X.env :: X.outer) := by rw [← o.1]; exact I.stack
  refine note_ok (H := H) (fun b hb => I.hok.fresh hb) hfr hl1 o.2 f.ex hl fun h1 n1 x1 => ?_
  rw [← o.1] at n1
  have f1 := f.nt n1 x1
  obtain ⟨oe, vs, he, _, _, hd, _, _, T, oT, ts, h1', _⟩ := id x1
  refine wpAny_bind (wpAny_field he hd h1' ?_)
  rw [if_neg (show ¬ ((Value.ref T == Value.none) = true) from by simp)]
  refine flight_ok (fs := frs X.stack) (g := rawInt X.env.locals) (by rw [o.2]; rfl) x1 fun h2 n2 x2 => ?_
  exact ⟨σ, H, lo, ea, cls, dx, _, rfl, f1.nt n2 x2, .inr (.inr rfl), hw⟩
end
section
variable {P : Program} {w : World} {K : PySem.W.Frag} {mg : Str → Option Value} {base : Heap} {N : List Str} {qual : Str} {scope : Scope} {f : Addr} {cd : Value} {A : Around} {outer : List Env} {s s' : Shared} {H : Hp} {E : XK} {e : Value}
/-- it leaves the def -/
theorem Out.leaves (h : Out (cxOf (CX1 P w) P w K mg base N qual scope f cd A outer s H E) (fun cls dx _ H' => E cls (some dx) H') e s') : (cxOf (CX1 P w) P w K mg base N qual scope f cd A outer s H E).xe e s' := by
  obtain ⟨σ, H', lo, ea, cls, dx, fl, rfl, g, hl, hw⟩ := h
  have I := g.inv
  refine leave_ok (H := H') (fun b hb => I.hok.fresh hb) I.ok.frames I.stack (L := s.heap.objs.size) rfl g.ex hl fun h1 n1 x1 => ?_
  have g1 := g.nt n1 x1
  have I1 := g1.inv
  exact ⟨ea, cls, dx, H', rfl, I1.os, I1.bare, I1.base, I1.hok, x1.mono g.lo0, hw⟩
end
section
variable {X : Cx} {W : XW} {k : Nat} {f : Addr} {fd : FuncData} {ps : List Str} {sp : Sp} {dvs : List V} {ds : List Value} {x : Str} {p pos : Pos} {e : Expr} {es : List Expr} {t : TA}
end
end L2

/-! AN EXCEPTION IS MADE: a class of one's own above ValueError, with its own __init__. -/
namespace L2
open PySem PySem.Spec PyProof.Rows PySem.Calls
section
variable {prog : Program} {w : World} {A : Around} {h : Heap} {g : Array GenState} {d : Drawn} {t : Nat} {os : OsState} {R : Result → Shared → Prop} {K : PySem.W.Frag}
variable {nm q : Str} {C N f : Addr} {bs bm bmB : List Value} {hdct : Bool} {sn : List Str} {sub : List Value} {ab : Bool} {col : Option Bool} {dd : Option Addr} {k0 k1 k2 k3 k5 : Option Value}
/-- the record of an exception, its arguments at t, its dict -/
def excObj (cls : Value) (t : Addr) (d : Option Addr) : Obj := { cls := cls, dict := d, data := .fields #[.ref t, .none, .none, .none, .bool false, .none] }
end
end L2

/-! Attributes of an exception: set and read. -/
namespace L2
open PySem PySem.Spec PyProof.Rows PySem.Calls Builtin.ObjectAttr

/-- what is above a class of one's own above ValueError -/
abbrev bmV : List Value := [.type "ValueError", .type "Exception", .type "BaseException", .type "object"]
/-- the class at C is one of one's own right above the one at R, which is right above ValueError -/
structure XCls (K : PySem.W.Frag) (C R : Addr) : Prop where
  obj : ∃ nm q N bs sn sub ab col dd k0 k1 k2 k3 k5, K.lookup C = some (excClassObj nm q C N bs (.ref R :: bmV) true sn sub ab col dd k0 k1 k2 k3 k5 "ValueError.__new__")
  tail : PySem.W.tailIn K bmV (.ref R :: bmV) = true
  sa : PySem.W.findIn K (.ref C) "__setattr__" = some (some (.builtin "object.__setattr__"))
  ga : PySem.W.findIn K (.ref C) "__getattribute__" = some (some (.builtin "BaseException.__getattribute__"))
  gx : PySem.W.findIn K (.ref C) "__getattr__" = some none
  ob : PySem.W.mroIn K C (.type "object") = some true
  be : PySem.W.mroIn K C (.type "BaseException") = some true
theorem XCls.cls {K : PySem.W.Frag} {C R : Addr} (c : XCls K C R) : ∃ cd, PySem.W.clsIn K C = some cd ∧ cd.mro = [.ref C, .ref R, .type "ValueError", .type "Exception", .type "BaseException", .type "object"] ∧ cd.hasDict = true := by
  obtain ⟨nm, q, N, bs, sn, sub, ab, col, dd, k0, k1, k2, k3, k5, h⟩ := c.obj
  exact ⟨{ name := nm, bases := bs, mro := .ref C :: .ref R :: bmV, ns := N, qualname := q, hasDict := true, slotNames := sn, subclasses := sub, abstract := ab, collection := col, hasDel := false }, by unfold PySem.W.clsIn; rw [h], rfl, rfl⟩
section
variable {prog : Program} {w : World} {A : Around} {K : PySem.W.Frag} {C R0 x : Addr} {s : Shared} {ox : Obj} {od : Option Obj} {name : Str} {tk : Tok} {v : Value} {R : Result → Shared → Prop} {E : Value → Shared → Prop}
end
end L2

/-! The __init__ of an exception's class: what it says of itself, what it keeps. -/
namespace L2
open PySem PySem.Spec PyProof.Rows PySem.Calls

/-- an exception that is being made, or that was caught: its class, its dict -/
def XcO (e : Addr) (cls : Value) (d : Option Addr) : HO := .ext fun h => ∃ t, h.get? e = some (excObj cls t d)
theorem XcO.ok {P : Program} {w : World} {H : Hp} {h : Heap} {e t : Addr} {cls : Value} {d : Option Addr} (x : h.get? e = some (excObj cls t d)) : ObjOk P w H h e (XcO e cls d) :=
  ⟨⟨t, x⟩, ⟨_, x⟩, fun h1 h2 ⟨t, x⟩ k => ⟨t, k _ x⟩⟩
section
variable {X : Cx} {pins : List (Addr × Obj)} {σ : St} {H : Hp} {s : Shared} {e C R : Addr}
/-- a tracked object is another one from now on -/
theorem Inv.put {a : Addr} {o o' : HO} {h' : Heap} {t' : Nat} (I : Inv X pins σ H s) (h : H a = some o) (nt : ∀ xs, o ≠ .tup xs) (nf : ∀ ob u, o ≠ .frz ob u) (nb : ∀ ps, o ≠ .tbl ps) (no : ∀ y, o ≠ .own y) (k : ∀ b u, b ≠ a → s.heap.get? b = some u → h'.get? b = some u)
    (there : ∃ u, h'.get? a = some u) (new : ObjOk X.prog X.w (upd H a o') h' a o') : Inv X pins σ (upd H a o') { s with heap := h', toks := t' } := by
  have ne : ∀ b u, H b = some u → o ≠ u → b ≠ a := fun b u q n z => by subst z; rw [h] at q; cases q; exact n rfl
  have nn : ∀ b, H b = none → b ≠ a := fun b q z => by subst z; rw [h] at q; cases q
  refine I.un ⟨fun b u q n _ _ => k b u (nn b n) q, fun b u q n _ _ => ⟨u.slots, k b u (nn b n) q⟩, fun b u q n _ => by rw [upd_ne (nn b n)]; exact n, fun b u q _ => ?_, fun b xs q => by rw [upd_ne (ne b _ q (nt xs))]; exact q, fun b ob u q => by rw [upd_ne (ne b _ q (nf ob u))]; exact q, fun b ps q => ⟨#[], by rw [upd_ne (ne b _ q (nb ps)), q]; simp⟩⟩ fun b u q => ?_
  · by_cases z : b = a
    · subst z; exact there
    · exact ⟨u, k b u z q⟩
  · by_cases z : b = a
    · subst z; rw [upd_same] at q; cases q; exact new
    · rw [upd_ne z] at q
      refine (I.hok b u q).stay (fun c v hc r => k c v ?_ r) (fun c r => by rw [upd_ne (ne c _ r (no b))]; exact r) fun c xs r => by rw [upd_ne (ne c _ r (nt xs))]; exact r
      rcases hc with rfl | hc
      · exact z
      · exact ne c _ hc (no b)
theorem Inv.xc {cls : Value} {d : Option Addr} (I : Inv X pins σ H s) (h : H e = some (XcO e cls d)) : ∃ t, s.heap.get? e = some (excObj cls t d) := (I.hok e _ h).1
/-- the class's own words for an exception's __init__: the name R, above it ValueError's -/
structure XInit (K : PySem.W.Frag) (R : Addr) : Prop where
  reads : PySem.W.readsIn K R (.type "type") = true
  finds : PySem.W.findCls K (.ref R) (.type "type") "__init__" = some (.val (.builtin "ValueError.__init__"))
  spec : PySem.W.specialIn K (.ref R) "__getattribute__" = some (some (.builtin "type.__getattribute__"))
end
end L2

/-! raise C(..), C a class of one's own above ValueError with its own __init__. -/
namespace L2
open PySem PySem.Spec PyProof.Rows PySem.Calls

/-- what the __init__ of an exception's class promises: it keeps its arguments by their names -/
def spX (K : PySem.W.Frag) (fs : List Str) : Sp := fun vs H Q _ => ∃ e C R ys, vs = .ref e :: ys ∧ ys.length = fs.length ∧ H e = some (XcO e (.ref C) none) ∧ XCls K C R ∧ (∀ f ∈ fs, PySem.W.findIn K (.ref C) f = some none) ∧
  ∀ dx H', H dx = none → dx ≠ e → H' e = some (XcO e (.ref C) (some dx)) → H' dx = some (.xd (fs.zip ys)) → (∀ b, b ≠ e → b ≠ dx → H' b = H b) → Q .non H'
section
variable {X : Cx} {pins : List (Addr × Obj)} {σ : St} {H : Hp} {s : Shared}
/-- a tracked record is forgotten -/
def dropH (H : Hp) (e : Addr) : Hp := fun b => if b = e then none else H b
theorem drop_ne {H : Hp} {e b : Addr} (h : b ≠ e) : dropH H e b = H b := if_neg h
theorem Inv.drop {e : Addr} {φ : Heap → Prop} (I : Inv X pins σ H s) (h : H e = some (.ext φ)) (lo : X.s_0.heap.objs.size ≤ e) : Inv X pins σ (dropH H e) s := by
  have ne : ∀ b u, H b = some u → u ≠ .ext φ → b ≠ e := fun b u q n z => by subst z; rw [h] at q; cases q; exact n rfl
  have nn : ∀ b, H b = none → dropH H e b = none := fun b q => by unfold dropH; split <;> first | rfl | exact q
  have z := I.base
  refine ⟨I.ok, I.os, I.bare, ⟨z.keep, z.slot, fun b o q n hx => nn b (z.free b o q n hx), z.there, fun b xs q => ?_, fun b o u q => ?_, fun b ps q => ?_⟩, I.loc, I.cell, nn _ I.free, fun x c q => nn _ (I.freeC x c q), fun p hp => let ⟨a, b, r⟩ := I.pin p hp; ⟨a, nn _ b, r⟩, fun b u q => ?_, I.len⟩
  · have q' := z.tups b xs q
    rw [drop_ne (ne b _ q' (by intro z; cases z))]; exact q'
  · have q' := z.frzs b o u q
    rw [drop_ne (ne b _ q' (by intro z; cases z))]; exact q'
  · obtain ⟨more, q'⟩ := z.tbls b ps q
    exact ⟨more, by rw [drop_ne (ne b _ q' (by intro z; cases z))]; exact q'⟩
  · unfold dropH at q
    split at q
    · cases q
    · exact (I.hok b u q).stay (fun _ _ _ q => q) (fun c q => by rw [drop_ne (ne c _ q (by intro z; cases z))]; exact q) fun c xs q => by rw [drop_ne (ne c _ q (by intro z; cases z))]; exact q
end
end L2

/-! try .. except C: .., C a class of one's own. -/
namespace L2
open PySem PySem.Spec PyProof.Rows PySem.Calls

abbrev Cx.pinned (X : Cx) (ps : List (Addr × Obj)) : Cx := { X with pn := X.pn ++ ps }
section
variable {X : Cx} {pins : List (Addr × Obj)} {σ : St} {H : Hp} {s : Shared}
theorem Cx.Ok.pinned (ok : X.Ok) (ps : List (Addr × Obj)) : (X.pinned ps).Ok :=
  ⟨ok.mod, ok.kind, ok.glob, ok.blt, ok.above, ok.inj, ok.has, ok.cab, ok.hd, ok.frames, ok.stk, ok.exf, ok.bs, ok.bsz, ok.noex, ok.exfs, ok.funs, ok.frf⟩
theorem Cx.Ok.unpinned {ps : List (Addr × Obj)} (ok : (X.pinned ps).Ok) : X.Ok :=
  ⟨ok.mod, ok.kind, ok.glob, ok.blt, ok.above, ok.inj, ok.has, ok.cab, ok.hd, ok.frames, ok.stk, ok.exf, ok.bs, ok.bsz, ok.noex, ok.exfs, ok.funs, ok.frf⟩
theorem Inv.unpinX (I : Inv (X.pinned pins) [] σ H s) : Inv X pins σ H s := ⟨I.ok.unpinned, I.os, I.bare, I.base, I.loc, I.cell, I.free, I.freeC, fun p hp => I.pin p (by rw [List.append_nil]; exact hp), I.hok, I.len⟩
theorem SP.unpinned {D : Ends} {f : Flow} {s' : Shared} {E : Value → Shared → Prop} (h : SP ((X.pinned pins).wish E) [] D f s') : SP X pins D f s' := by
  cases f with
  | next => obtain ⟨σ', H', I, q⟩ := h; exact ⟨σ', H', I.unwish.unpinX, q⟩
  | brk => obtain ⟨σ', H', I, q⟩ := h; exact ⟨σ', H', I.unwish.unpinX, q⟩
  | cont => obtain ⟨σ', H', I, q⟩ := h; exact ⟨σ', H', I.unwish.unpinX, q⟩
  | ret u => obtain ⟨v, σ', H', I, r, q⟩ := h; exact ⟨v, σ', H', I.unwish.unpinX, r, q⟩
/-- the class that a clause names -/
structure CCls (K : PySem.W.Frag) (Cc : Addr) : Prop where
  obj : ∃ dd cd sl, K.lookup Cc = some ⟨.type "type", dd, .cls cd, sl⟩
  be : PySem.W.mroIn K Cc (.type "BaseException") = some true
end
end L2

/-! try .. except C as n: .. -/
namespace L2
open PySem PySem.Spec PyProof.Rows PySem.Calls

section
variable {M : Model} {A : Around} {E : Value → Shared → Prop} {s : Shared}
end
section
variable {X : Cx} {pins : List (Addr × Obj)} {σ : St} {H : Hp} {s : Shared}
theorem Fly.seen {lo ea dx : Addr} {cls : Value} {fl : Option Value} (f : Fly X pins σ H s lo ea cls dx fl) : Inv X pins σ (upd H ea (XeO ea cls dx)) s := by
  have I := f.inv
  obtain ⟨oe, vs, he, hc, hx, hd, hlo, hn, _⟩ := f.ex
  have ne : ∀ b u, H b = some u → b ≠ ea := fun b u q => ne_of_none q hn
  refine I.step (h' := s.heap) (g' := s.gens) (d' := s.drawn) (t' := s.toks) (ch := [ea]) (fun b hb => ?_) (fun b o _ _ _ e _ => e) (fun b o _ _ _ e _ => ⟨o.slots, e⟩) (fun b o hb _ n => ?_) (fun b o _ e => ⟨o, e⟩) (fun b xs q => by rw [upd_ne (ne b _ q)]; exact q) (fun b o u q => by rw [upd_ne (ne b _ q)]; exact q) (fun b ps q => ⟨#[], by rw [upd_ne (ne b _ q), q]; simp⟩) (fun _ h => h) (fun b u q => ?_) I.bare
  · rw [List.mem_singleton.mp hb]
    exact ⟨.inr (Nat.le_trans f.lo0 hlo), Nat.ne_of_gt (Nat.lt_of_lt_of_le f.lol hlo), fun y c e => Nat.ne_of_lt (Nat.lt_of_lt_of_le (f.loc y c e) hlo), fun p hp => Nat.ne_of_lt (Nat.lt_of_lt_of_le (f.lop p hp) hlo)⟩
  · rw [upd_ne (fun z => hb (by rw [z]; exact List.mem_singleton_self _))]; exact n
  · by_cases z : b = ea
    · subst z
      rw [upd_same] at q; cases q
      exact ⟨⟨oe, vs, he, hc, hx, hd⟩, ⟨oe, he⟩, fun h1 h2 ⟨oe, vs, he, r⟩ k => ⟨oe, vs, k _ he, r⟩⟩
    · rw [upd_ne z] at q
      exact (I.hok b u q).stay (fun _ _ _ q => q) (fun c q => by rw [upd_ne (ne c _ q)]; exact q) fun c xs q => by rw [upd_ne (ne c _ q)]; exact q
end
end L2

/-! EXCEPTIONS over plain values: defs that raise, raise, try. -/
namespace M
open PySem PySem.Spec PyProof.Rows L2
theorem CodeAt.on {T0 T1 : Tabs} (o : On T1 T0) {K : PySem.W.Frag} {cd : Value} (c : @CodeAt T0 K cd) : @CodeAt T1 K cd := by
  obtain ⟨a, P, h1, h2, h3⟩ := @CodeAt.ex T0 _ _ c
  exact @CodeAt.mk T1 K cd ⟨a, P, h1, h2, by rw [o.t]; exact h3⟩
theorem LD.up {T0 T1 : Tabs} {K : PySem.W.Frag} {ι : List Addr} {H : Hp} {P : PD} {D : Ends} (o : On T1 T0) (l : @LD T0 K ι H P D) : @LD T1 K ι H P D :=
  @LD.mk T1 K ι H P D (fun ι' H' S' fr' σ' f s => @LD.nx T0 _ _ _ _ _ l ι' H' S' fr' σ' f (s.down o)) (fun ι' H' S' p v f s => @LD.rt T0 _ _ _ _ _ l ι' H' S' p v f (s.down o)) (fun ι' H' S' fr' σ' f s => @LD.bk T0 _ _ _ _ _ l ι' H' S' fr' σ' f (s.down o)) (fun ι' H' S' fr' σ' f s => @LD.ct T0 _ _ _ _ _ l ι' H' S' fr' σ' f (s.down o))
variable {T0 : Tabs} [T1 : Tabs]

/-- what is wanted of an exception within a body; behind a call -/
abbrev XP := Str → List (Str × PV) → Fr → Sto → Prop
abbrev XPs := Str → List (Str × PV) → Sto → Prop
abbrev PSpX := List PV → Sto → Post → XPs → Prop
/-- how the class and the record of an exception lie -/
structure RX (K : PySem.W.Frag) (ι : List Addr) (H : Hp) (c : Str) (fs : List (Str × PV)) (cls : Value) (dx : Addr) : Prop where
  cl : ∃ C, PySem.W.nsIn K mainGlobals c = some (some (.ref C)) ∧ cls = .ref C
  rcd : ∃ ws, H dx = some (.xd ws) ∧ RKs K ι H fs ws
  out : dx ∉ ι
def liftSpX (K : PySem.W.Frag) (spx : PSpX) : Sp := fun vs H Q E => ∃ (ι : List Addr) (S : Sto) (ps : List PV) (Qp : Post) (Xp : XPs), RS K ι H S ∧ RVs K ι H ps vs ∧ spx ps S Qp Xp ∧
  (∀ (ι' : List Addr) (H' : Hp) (S' : Sto) (p : PV) (v : V), Fut K ι H ι' H' → RS K ι' H' S' → RV K ι' H' p v → Qp p S' → Q v H') ∧
  ∀ (ι' : List Addr) (H' : Hp) (S' : Sto) (c : Str) (fs : List (Str × PV)) (cls : Value) (dx : Addr), Fut K ι H ι' H' → RS K ι' H' S' → RX K ι' H' c fs cls dx → Xp c fs S' → E cls (some dx) H'
/-- the name x is a def that keeps spx, and may raise -/
structure FnX (P : Program) (w : World) (K : PySem.W.Frag) (mg : Str → Option Value) (base : Heap) (k : Nat) (x : Str) (spx : PSpX) : Prop where
  ex : ∃ (f : Addr) (fd : FuncData) (ps : List Str), FnOk P w K mg base (CX1 P w) k f fd ps (liftSpX K spx) ∧ mg x = some (.ref f) ∧ PySem.W.keepIn K (.ref f) = true ∧ Binds K fd ps []
/-! ### the call of a def that may raise -/
section
variable {X : Cx} {W : XW} {xq : XP} {x : Str} {p pos : Pos} {e : Expr} {es : List Expr} {g : WA} {spx : PSpX} {k : Nat}
end

/-! ### raise -/
/-- the name c is a class of exceptions that keep fs -/
structure XMk (P : Program) (w : World) (K : PySem.W.Frag) (mg : Str → Option Value) (base : Heap) (c : Str) (fs : List Str) : Prop where
  ex : ∃ (f C R : Addr) (fd : FuncData) (ps : List Str), FnOk P w K mg base CX0 1 f fd ps (spX K fs) ∧ XCls K C R ∧ (∀ f ∈ fs, PySem.W.findIn K (.ref C) f = some none) ∧ PySem.W.findIn K (.ref C) "__init__" = some (some (.ref f)) ∧
    PySem.W.typeIn K (.ref f) = some (.type "function") ∧ PySem.W.keepIn K (.ref C) = true ∧ PySem.W.nsIn K mainGlobals c = some (some (.ref C)) ∧ mg c = some (.ref C) ∧ Binds K fd ps [] ∧ fs.length ≤ 16
theorem RVs.zip {K : PySem.W.Frag} {ι : List Addr} {H : Hp} : ∀ (fs : List Str) {ps : List PV} {vs : List V}, RVs K ι H ps vs → RKs K ι H (fs.zip ps) (fs.zip vs)
  | [], _, _, _ => .nil
  | _ :: _, _, _, .nil => .nil
  | _ :: fs, _, _, .cons r t => .cons r (RVs.zip fs t)
section
variable {X : Cx} {W : XW} {xq : XP} {c : Str} {np cpos pos : Pos} {e : Expr} {es : List Expr} {g : WA} {fs : List Str}
end

/-! ### try -/
/-- the name cn is a class that catches the classes of ok -/
structure XSub (K : PySem.W.Frag) (mg : Str → Option Value) (cn : Str) (ok : Str → Prop) : Prop where
  ex : ∃ Cc, mg cn = some (.ref Cc) ∧ CCls K Cc ∧ ∀ c, ok c → ∀ C, PySem.W.nsIn K mainGlobals c = some (some (.ref C)) → PySem.W.mroIn K C (.ref Cc) = some true
section
variable {X : Cx} {body suite : List Stmt} {b0 : Stmt} {cn n : Str} {np hpos pos : Pos} {ok : Str → Prop} {b : XP → WS} {h : WS}
end

/-! ### a def that may raise keeps what it promises -/
end M

/-! isinstance(e, C) of an exception that was caught; e.word. -/
namespace L2
open PySem PySem.Spec PyProof.Rows PySem.Calls

/-- what the name __class__ is to a class of one's own -/
structure XIs (K : PySem.W.Frag) (C : Addr) : Prop where
  ca : PySem.W.findIn K (.ref C) "__class__" = some (some (.builtin "object.__class__"))
  sp : PySem.W.specialIn K (.builtin "object.__class__") "__get__" = some (some (.builtin "getset_descriptor.__get__"))
  tk : PySem.W.takesIn K (.builtin "object.__class__") = some true
section
variable {prog : Program} {w : World} {A : Around} {K : PySem.W.Frag} {C R0 x : Addr} {s : Shared} {ox od : Obj} {E : Value → Shared → Prop}
end
section
variable {K : PySem.W.Frag} {C R x : Addr}
end
section
variable {X : Cx} {pins : List (Addr × Obj)} {σ : St} {H : Hp} {s : Shared} {e dx C R : Addr} {ws : List (Str × V)}
theorem Inv.exc (I : Inv X pins σ H s) (he : H e = some (XeO e (.ref C) dx)) (hd : H dx = some (.xd ws)) :
    ∃ ox mA, s.heap.get? e = some ox ∧ ox.cls = .ref C ∧ PySem.W.notCls ox = true ∧ ox.dict = some dx ∧ s.heap.Ns1 dx mA ∧ ∀ f, RelO (ws.lookup f) (mA f) := by
  obtain ⟨ox, vs, h1, h2, h3, h4⟩ := (I.hok e _ he).1
  obtain ⟨mA, h5, h6⟩ := I.hok dx _ hd
  exact ⟨ox, mA, h1, h2, by unfold PySem.W.notCls; rw [h4], h3, h5, h6⟩
/-- what a class of one's own answers when it is asked for an exception's kind -/
structure XKind (K : PySem.W.Frag) (C : Addr) : Prop where
  xc : ∃ R, XCls K C R
  xi : XIs K C
  kc : ∃ v, PySem.W.kitCls K (.ref C) (.ref C) = some v
end
end L2

/-! What the __init__ of an exception's class keeps, read off its body. -/
namespace L2
open PySem PySem.Spec PyProof.Rows PySem.Calls
variable {K : PySem.W.Frag}
end L2

/-! isinstance(e, C), isinstance(e, (C, ..)), e.word of an exception that was caught. -/
namespace M
open PySem PySem.Spec PyProof.Rows L2
variable {T0 : Tabs} [T1 : Tabs]

/-- the name d is a class of exceptions, of which b is told by k -/
def XTell (K : PySem.W.Frag) (d : Str) (k : Addr → Prop) : Prop := ∃ C, PySem.W.nsIn K mainGlobals d = some (some (.ref C)) ∧ XKind K C ∧ k C
/-- a class by its name; the names of several; a built-in class -/
structure XOne (K : PySem.W.Frag) (mg : Str → Option Value) (cn : Str) (is : Str → Option Bool) : Prop where
  ex : ∃ Cc, mg cn = some (.ref Cc) ∧ ∀ d b, is d = some b → XTell K d fun C => PySem.W.kitOne K (.ref C) (.ref Cc) = some b
structure XBlt (K : PySem.W.Frag) (mg : Str → Option Value) (T : String) (is : Str → Option Bool) : Prop where
  no : mg (Str.ofString T) = none
  ex : ∀ d b, is d = some b → XTell K d fun C => PySem.W.kitOne K (.ref C) (.type T) = some b
structure XAny (K : PySem.W.Frag) (mg : Str → Option Value) (cns : List Str) (is : Str → Option Bool) : Prop where
  ex : ∃ Cs : List Addr, Paired (fun cn Cc => mg cn = some (.ref Cc)) cns Cs ∧ ∀ d b, is d = some b → XTell K d fun C => PySem.W.kitAny K (.ref C) (Cs.map Value.ref) = some b
/-- the names' values, one after another -/
structure PRs (X : Cx) (es : List Expr) (cns : List Str) : Prop where
  pa : ∀ Cs : List Addr, Paired (fun cn Cc => X.mg cn = some (.ref Cc)) cns Cs → PA X es fun _ H Q => Q (Cs.map V.ref) H
theorem RS.exc {K : PySem.W.Frag} {ι : List Addr} {H : Hp} {S : Sto} {n : Nat} {d : Str} {fs : List (Str × PV)} {v : V} (s : RS K ι H S) (r : RV K ι H (.ref n) v) (h : S[n]? = some (.exc d fs)) :
    ∃ a C dx ws, v = .ref a ∧ PySem.W.nsIn K mainGlobals d = some (some (.ref C)) ∧ H a = some (XeO a (.ref C) dx) ∧ H dx = some (.xd ws) ∧ RKs K ι H fs ws := by
  cases r with
  | ref ha =>
    obtain ⟨C, dx, ws, h0, h1, _, h2, h3⟩ := s.there h ha
    exact ⟨_, C, dx, ws, rfl, h0, h1, h2, h3⟩
section
variable {X : Cx} {e : Expr} {fe : WE} {cn : Str} {is : Str → Option Bool} {p q pos tpos : Pos}
structure XGet (K : PySem.W.Frag) (ok : Str → Prop) (f : Str) : Prop where
  ex : ∀ d, ok d → ∃ C R, PySem.W.nsIn K mainGlobals d = some (some (.ref C)) ∧ XCls K C R ∧ PySem.W.findIn K (.ref C) f = some none
theorem RKs.look {K : PySem.W.Frag} {ι : List Addr} {H : Hp} {f : Str} {y : PV} : ∀ {fs : List (Str × PV)} {ws : List (Str × V)}, RKs K ι H fs ws → fs.lookup f = some y → ∃ v, ws.lookup f = some v ∧ RV K ι H y v
  | _, _, .nil, h => by simp at h
  | _, _, @RKs.cons _ _ _ _ k p v _ _ r t, h => by
    rw [List.lookup_cons] at h ⊢
    by_cases z : (f == k) = true
    · rw [z] at h ⊢
      cases h
      exact ⟨v, rfl, r⟩
    · rw [Bool.not_eq_true] at z
      rw [z] at h ⊢
      exact RKs.look t h
end

/-! ### the classes of a law, one after another -/
end M

/-! ~x, upper(), lower(). -/
namespace M
open PySem PySem.Spec PyProof.Rows L2
variable [Tabs]
end M

/-! Numbers that may be truths: +, -, *, str(). -/
namespace M
open PySem PySem.Spec PyProof.Rows L2
variable [Tabs]
def b2 (a : Bool) : Int := if a = true then 1 else 0
end M

/-! Where a thing stands in a tuple. -/
namespace MD
open PySem PySem.Spec PyProof.Rows L2
section
variable {M : Model} {A : Around} {E : Value → Shared → Prop} {s : Shared}
end
end MD
namespace M
open PySem PySem.Spec PyProof.Rows L2
variable [Tabs]
section
variable {X : Cx}
theorem RVs.many {K : PySem.W.Frag} {ι : List Addr} {H : Hp} {y : PV} {w : V} (ry : RV K ι H y w) (f : flatP y = true) : ∀ {ps : List PV} {vs : List V}, RVs K ι H ps vs → ps.all flatP = true → (vs.countP fun z => eqV z w) = ps.countP fun z => eqP z y
  | _, _, .nil, _ => rfl
  | _, _, .cons r t, g => by
    rw [List.all_cons, Bool.and_eq_true] at g
    rw [List.countP_cons, List.countP_cons, RVs.many ry f t g.2, r.eqP ry g.1 f]
end
end M

/-! Dicts by tuples of ints and texts. -/
namespace M
open PySem PySem.Spec PyProof.Rows L2
variable [Tabs]
section
variable {κ : Type} [DecidableEq κ]
variable {K : PySem.W.Frag} {ι : List Addr} {H : Hp} {S : Sto}
theorem RKs.get? {ps : List (κ × PV)} {vs : List (κ × V)} (r : RKs K ι H ps vs) : ∀ {i : Nat} {k : κ} {v : V}, vs[i]? = some (k, v) → ∃ p, ps[i]? = some (k, p) ∧ RV K ι H p v := by
  induction r with
  | nil => intro i k v h; simp at h
  | cons r t ih =>
    intro i k v h
    cases i with
    | zero => simp at h; obtain ⟨rfl, rfl⟩ := h; exact ⟨_, rfl, r⟩
    | succ i => exact ih (by simpa using h)
end
/-- a tuple as a key -/
def keysP : PV → Option (List Key)
  | .tup xs => xs.mapM keyP
  | _ => none
section
variable {K : PySem.W.Frag} {ι : List Addr} {H : Hp}
theorem RVs.keys : ∀ {xs : List PV} {vs : List V} {ks : List Key}, RVs K ι H xs vs → xs.mapM keyP = some ks → vs = ks.map kV
  | _, _, ks, .nil, h => by simp at h; subst h; rfl
  | x :: xs, v :: vs, ks, .cons r t, h => by
    rw [List.mapM_cons] at h
    obtain ⟨k, hk, h⟩ := Option.bind_eq_some_iff.mp h
    obtain ⟨ks', hks, h⟩ := Option.bind_eq_some_iff.mp h
    cases h
    rw [List.map_cons, r.key hk, RVs.keys t hks]
/-- the key's own tuple -/
theorem RV.keys (st : ¬ Loose) {p : PV} {v : V} {ks : List Key} (r : RV K ι H p v) (h : keysP p = some ks) : ∃ b, v = .ref b ∧ H b = some (.tup (ks.map kV)) := by
  cases r with
  | tup ha ra =>
    refine ⟨_, rfl, ?_⟩
    rw [← ra.keys h]
    exact ha.elim id fun z => absurd z.1 st
  | _ => exact nomatch h
end
/-- the dict at n, by tuples; it may be locked -/
def DT (S : Sto) (n : Nat) (kvs : List (List Key × PV)) : Prop := S[n]? = some (.dcT kvs) ∨ S[n]? = some (.rdT kvs)
theorem RS.dt {K : PySem.W.Frag} {ι : List Addr} {H : Hp} {S : Sto} (s : RS K ι H S) {n : Nat} {a : Addr} {kvs : List (List Key × PV)} (h : DT S n kvs) (ha : ι[n]? = some a) : ∃ ws, Rd H a (.dT ws) ∧ RKs K ι H kvs ws := by
  rcases h with h | h
  · obtain ⟨ws, e, r⟩ := s.there h ha
    exact ⟨ws, .inl e, r⟩
  · obtain ⟨ws, ⟨o, e⟩, r⟩ := s.there h ha
    exact ⟨ws, .inr ⟨o, e⟩, r⟩
section
variable {X : Cx} {o i e f value tg : Expr} {fo fi fv fz : WE} {pos pos' apos cpos : Pos}
theorem RKs.keys {κ : Type} {K : PySem.W.Frag} {ι : List Addr} {H : Hp} {α : Type} (g : κ → α) : ∀ {ps : List (κ × PV)} {vs : List (κ × V)}, RKs K ι H ps vs → (ps.map fun kv => g kv.1) = vs.map fun kv => g kv.1
  | _, _, .nil => rfl
  | _, _, .cons r t => by rw [List.map_cons, List.map_cons, RKs.keys g t]
end
end M

/-! A text once, or not at all. -/
namespace M
open PySem PySem.Spec PyProof PyProof.Rows L2
variable [Tabs]
end M

/-! in and not in: any data looked for among data. -/
namespace L2
open PySem PySem.Spec PyProof.Rows
section
variable {X : Cx}
end
end L2
namespace M
open PySem PySem.Spec PyProof.Rows L2
variable [Tabs]
end M

/-! A list whole, there or back, by a step of 1 or -1. -/
namespace M
open PySem PySem.Spec PyProof.Rows L2
variable [Tabs]
def turnV {α : Type} (z : Int) (xs : List α) : List α := if z = 1 then xs else xs.reverse
theorem RVs.turn {K : PySem.W.Frag} {ι : List Addr} {H : Hp} {i : Int} {ps : List PV} {vs : List V} (r : RVs K ι H ps vs) : RVs K ι H (turnV i ps) (turnV i vs) := by
  unfold turnV
  split
  · exact r
  · exact r.rev
end M

/-! A list's item as a target. -/
namespace M
open PySem PySem.Spec PyProof.Rows L2
variable [Tabs]
def pItem (fo fi : WE) : WG := fun v fr S Q => fo fr S fun x S2 => fi fr S2 fun y S3 => ∃ n xs k j, x = .ref n ∧ y = .int k ∧ S3[n]? = some (.lst xs) ∧ ixN xs.length k = some j ∧ Q fr (S3.set n (.lst (xs.set j v)))
section
variable {X : Cx} {o i : Expr} {fo fi : WE} {pos' : Pos}
theorem jg_item (ho : JE X o fo) (hi : JE X i fi)
    (ha : ∀ v, assign (.Subscript o i pos') X.env v = (do
      let ov ← holding [v] (eval o X.env)
      let iv ← holding [v, ov] (eval i X.env)
      standAt pos'
      holding [v, ov, iv] (setItem ov iv v)
      release [v, ov, iv] []) := by intro _; rfl) : JG X (.Subscript o i pos') (pItem fo fi) :=
  ⟨pg_imp (pg_sub ho.pe hi.pe set_list ha) fun v σ H Q ⟨ι, fr, S, p, Qp, hF, hS, hv, h, k⟩ => ⟨ι, fr, S, _, hF, hS, h, fun ι2 H2 S2 x w f2 s2 r2 q2 => ⟨ι2, fr, S2, _, hF.fut f2, s2, q2, fun ι3 H3 S3 y u f3 s3 r3 q3 => by
      obtain ⟨n, xs, kk, j, rfl, rfl, g1, g2, q⟩ := q3
      have f13 := f2.trans f3
      cases r3
      cases r2.fut f3 with
      | ref ha =>
        obtain ⟨ws, e1, r4⟩ := s3.ls ha g1
        obtain ⟨f4, s4⟩ := set_lst s3 ha g1 (RVs.setAt (hv.fut f13) r4 j)
        exact ⟨_, ws, kk, j, rfl, rfl, e1, by rw [← r4.length]; exact g2, k ι3 _ _ fr σ (f13.trans f4) s4 ((hF.fut f13).fut f4) q⟩⟩⟩⟩
end
end M

/-! max, and sorted(set(..)), of a tuple of ints. -/
namespace ST
open PySem PySem.SetTable PySem.Spec PyProof.Rows PySem.W
variable {prog : Program} {w : World} {A : Around} {E : Value → Shared → Prop} {s : Shared}
theorem call_setT {l : Addr} {items : Array Value} {ks : List Int} {Q : Value → Shared → Prop} (hh : A.handled = none) (hl : s.heap.IsTuple l items) (hi : IntsAre items.toList ks) (hn : items.size < 306)
    (h : ∀ (h' : Heap) (tk : Nat) zs o ep t, SI prog w h' s.heap.objs.size zs o ep t → UpI ks items.size zs → zs.length ≤ items.size → (∀ b o, s.heap.get? b = some o → h'.get? b = some o) → Q (.ref s.heap.objs.size) { s with heap := h', toks := tk }) :
    wpAny (model prog w) A (call (.type "set") [.ref l]) Q E s := by
  obtain ⟨cc, tt, mro⟩ := PySem.F.called_set.mro
  have made := PySem.F.called_set.made
  have sub0 := PySem.F.called_set.sub
  have sub1 := PySem.F.called_set.notType
  have sub2 := PySem.F.called_set.canCreate
  have chk := PySem.F.typeCall_set_1 (.ref l)
  refine wpAny_call (codeAny_of_tree (wpAny_pure (a := Fin.again _) ⟨Code.quiet_builtin _ (by decide +kernel), codeAny_builtin PySem.F.entry_type_call (Around.under_plain (weight_type_call_type "set" [.ref l] []) rfl ▸ ?_)⟩))
  repeat (any_goals (first | assumption | wp_step))
  refine codeAny_mono (new_set (.ref l) (E := E) (Q := fun x s1 => x = .ref s.heap.objs.size ∧ s1 = { s with heap := s.heap.push (newSetO w) }) ⟨rfl, rfl⟩) fun r s1 hr => ?_
  cases r with
  | error e => exact hr
  | ok fl =>
    cases fl with
    | ret obj =>
      obtain ⟨rfl, rfl⟩ := hr
      have at0 : (s.heap.push (newSetO w)).get? s.heap.objs.size = some (newSetO w) := Heap.get?_push_size _ rfl
      have ty : Shared.TypeIs { s with heap := s.heap.push (newSetO w) } (.ref s.heap.objs.size) "set" := ⟨_, at0, rfl⟩
      have li := PySem.F.called_set.init.lookup
      have bi := PySem.F.called_set.init.bind (.ref s.heap.objs.size)
      repeat (any_goals (first | assumption | wp_step))
      refine codeAny_mono (codeAny_call_builtin (R := wants (fun r s2 => r = .none ∧ ∃ h' tk zs o ep t, s2 = { s with heap := h', toks := tk } ∧ SI prog w h' s.heap.objs.size zs o ep t ∧ UpI ks items.size zs ∧ zs.length ≤ items.size ∧ ∀ b o, s.heap.get? b = some o → h'.get? b = some o) E)
        PySem.F.called_set.init.plain PySem.F.entry_set_init (check_set_init_1 ty ?_)) fun r2 s2 hr2 => ?_
      · obtain ⟨⟨oc, od, odt, os⟩, gl, cl, nl, dl⟩ := hl
        dsimp only at cl dl
        subst cl
        subst dl
        have gl' : (s.heap.push (newSetO w)).get? l = some { cls := .type "tuple", dict := od, data := .seq items nl, slots := os } := Heap.get?_push_of_some _ gl
        have no1 := PySem.F.sub_tuple_set
        have no2 := PySem.F.sub_tuple_frozenset
        have no3 : (Value.type "tuple" == Value.type "dict") = false := by decide
        have il : (s.heap.push (newSetO w)).IsTuple l items := ⟨_, gl', rfl, nl, rfl⟩
        have lS : l < s.heap.objs.size := Heap.lt_size gl
        have sz : (s.heap.push (newSetO w)).objs.size = s.heap.objs.size + 1 := Heap.size_push ..
        delta Builtin.«set.__init__» noKeywords Builtin.Frozenset.updateFrom
        generalize hPI : pyIter = PI
        wp_walk
        subst hPI
        refine wpAny_pyIter_tuple il (wpAny_bind (wpAny_runValue ?_))
        have up2 : ∀ b o, s.heap.get? b = some o → ((s.heap.push (newSetO w)).push { cls := .type "tuple_iterator", data := .fields #[.ref l, .int 0 0] }).get? b = some o := fun b o e => Heap.get?_push_of_some _ (Heap.get?_push_of_some _ e)
        have at1 := Heap.get?_push_of_some { cls := .type "tuple_iterator", data := .fields #[.ref l, .int 0 0] } at0
        refine loopI ((Walks.tuple (by simpa using hh) _ l (by rw [sz]; exact Nat.ne_of_lt (Nat.lt_succ_of_lt lS)) items).toS) s.heap.objs.size (by rw [sz]; simp only [List.mem_cons, List.not_mem_nil, or_false, not_or]; exact ⟨Nat.ne_of_lt (Nat.lt_succ_self _), Nat.ne_of_gt lS⟩) ks (fun i v hv => ?_) hn (items.size - 0) 0 _ [] _ _ _ rfl (Nat.zero_le _) ⟨⟨_, Heap.get?_push_size _ rfl, rfl, rfl⟩, il.push _⟩ (freshI at1) (by show 0 * 5 < 7 * 3; decide) (fun k => by simp) (Nat.zero_le _) fun s' zs' o' ep' t' mv S' U' l' => ?_
        · have hv : items.toList[i]? = some v := by rw [Array.getElem?_toList]; exact hv
          obtain ⟨tk, e⟩ := IntsAre.int_at hi i v hv
          have hlt : i < ks.length := by rw [← hi.length]; exact (List.getElem?_eq_some_iff.mp hv).1
          refine ⟨ks[i], tk, List.getElem?_eq_getElem hlt, ?_⟩
          rw [e, List.getD_eq_getElem?_getD, List.getElem?_eq_getElem hlt]
          rfl
        · change wpAny _ _ _ _ _ _
          refine wpAny_pure (wpAny_pure ⟨rfl, s'.heap, s'.toks, zs', o', ep', t', (Moved.eq_with mv).trans rfl, S', U', l', fun b o e => mv.heap b o ?_ (up2 b o e)⟩)
          have hb := Heap.lt_size e
          rw [sz]
          simp only [List.mem_cons, List.not_mem_nil, or_false, not_or]
          exact ⟨Nat.ne_of_lt hb, Nat.ne_of_lt (Nat.lt_succ_of_lt hb)⟩
      · cases r2 with
        | error e => exact hr2
        | ok f2 =>
          cases f2 with
          | ret r =>
            obtain ⟨rfl, h', tk, zs, o, ep, t, rfl, S', U', l', k'⟩ := hr2
            repeat (any_goals (first | assumption | wp_step))
            exact h _ _ _ _ _ _ S' U' l' k'
          | _ => exact hr2.elim
    | _ => exact hr.elim
theorem sorted_of_setT [M.Tabs] {l : Addr} {items : Array Value} {ks : List Int} {P : Value → Shared → Prop} (hh : A.handled = none) (hl : s.heap.IsTuple l items) (hi : IntsAre items.toList ks) (hn : items.size < 306)
    (h : ∀ (out : List Value) (ns : List Int) (h' : Heap) (p : Addr) (e tk : Nat), IntsAre out ns → (∀ k, k ∈ ns ↔ k ∈ ks) → ns.Pairwise (· < ·) → ns.length ≤ items.size → s.heap.objs.size ≤ p → (∀ b o, s.heap.get? b = some o → h'.get? b = some o) → h'.get? p = some (seqObj "list" out.toArray e) → P (.ref p) { s with heap := h', toks := tk }) :
    wpAny (model prog w) A (call (.type "set") [.ref l]) (fun u s1 => wpAny (model prog w) A (call (.builtin "sorted") [u]) P E s1) E s := by
  refine M.with_size (Nat.le_refl _) (call_setT hh hl hi hn fun h1 tk zs o ep t S U hle k1 hsz => ?_)
  refine sorted_setI (s := { s with heap := h1, toks := tk }) S hh (by rw [sizeLine_eq]; omega) fun out h' p e tk' hp ho hge kp he => ?_
  have kz : ∀ z ∈ zs, numOf z.2.2 = z.2.1 := fun z hz => by obtain ⟨tk, e⟩ := S.keys z hz; rw [e]; rfl
  have isI : ∀ v ∈ out, ∃ n t, v = Value.int n t := fun v hv => by
    obtain ⟨z, hz, rfl⟩ := List.mem_map.mp (hp.mem_iff.mp hv)
    obtain ⟨tk, h⟩ := S.keys z hz
    exact ⟨_, tk, h⟩
  have hpn : (out.map numOf).Perm (zs.map fun z => z.2.1) := by
    have := hp.map numOf
    rw [List.map_map] at this
    refine this.trans (.of_eq (List.map_congr_left fun z hz => kz z hz))
  refine h out (out.map numOf) h' p e tk' (intsAre_map _ isI) (fun k => ?_) ?_ (by rw [List.length_map, hp.length_eq, List.length_map]; exact hle) (Nat.le_trans hsz hge) (fun b o e => kp b o (k1 b o e)) he
  · rw [hpn.mem_iff, List.mem_map]
    have e := U k
    rw [List.take_of_length_le (by rw [← hi.length]; simp)] at e
    exact e
  · have nd : (out.map numOf).Nodup := hpn.nodup_iff.mpr S.nd
    unfold List.Nodup at nd
    have le : (out.map numOf).Pairwise (· ≤ ·) := by rw [List.pairwise_map]; exact ho
    exact List.Pairwise.imp (fun {x y} (h : _ ∧ _) => by omega) (List.Pairwise.and nd le)
theorem max_tupleG {t : Addr} {xs : Array (Int × Tok)} {Q : Value → Shared → Prop} (hh : A.handled = none) (ht : s.heap.IsTuple t (intItems xs)) (hne : 0 < xs.size)
    (h : ∀ v h' tk, (intItems xs)[argBest (fun i j => decide (numAt xs i > numAt xs j)) (xs.size - 1)]? = some v → (∀ b o, s.heap.get? b = some o → h'.get? b = some o) → Q v { s with heap := h', toks := tk }) :
    wpAny (model prog w) A (call (.builtin "max") [.ref t]) Q E s := by
  obtain ⟨o, ho, hc, n, hd⟩ := id ht
  have hn : t ≠ s.heap.objs.size := Nat.ne_of_lt (Heap.lt_size ho)
  refine call_max_walk (wpAny_pyIter_tuple ht ?_)
  refine ⟨s.heap.objs.size, [s.heap.objs.size, t], [s.heap.objs.size], _, _, _, _, rfl, Walks.tuple (A := A.in1) hh _ t hn (intItems xs), ⟨⟨_, Heap.get?_push_size _ rfl, rfl, rfl⟩, ht.push _⟩, fun b hb => ?_, by simpa [intItems] using hne, CmpOf.ints_gt (numAt xs) (fun _ _ => intItems_at), fun v h' tk hP hk => ?_⟩
  · rcases List.mem_cons.mp hb with rfl | hb
    · exact Heap.lt_size (Heap.get?_push_size _ rfl)
    · obtain rfl := List.mem_singleton.mp hb
      exact Heap.lt_size (Heap.get?_push_of_some _ ho)
  · refine h v h' tk (by simpa [intItems] using hP) fun b o e => hk b o (fun hm => ?_) (Heap.get?_push_of_some _ e)
    rw [List.mem_singleton.mp hm] at e
    exact absurd (Heap.lt_size e) (Nat.lt_irrefl _)
end ST
namespace M
open PySem PySem.Spec PyProof.Rows L2
variable [Tabs]
def rSortSetT (K : PySem.W.Frag) : List V → Hp → VK → Prop := fun vs H Q => ∃ (a : Addr) (ks : List Int), vs = [V.ref a] ∧ SqT K H a (ks.map V.int) ∧ ks.length < 306 ∧
  ∀ (ns : List Int) (p : Addr), (∀ k, k ∈ ns ↔ k ∈ ks) → ns.Pairwise (· < ·) → H p = none → Q (.ref p) (upd H p (.lst (ns.map V.int)))
section
variable {X : Cx} {x y : Str} {p1 p2 q1 q2 : Pos} {e : Expr} {t : TA}
theorem pe_sortSetT (hh : X.A.handled = none) (gx : Gl X x) (mx : X.mg x = none) (vx : bootBuiltins x = some (.builtin "sorted")) (gy : Gl X y) (my : X.mg y = none) (vy : bootBuiltins y = some (.type "set"))
    (ha : PA X [e] t) (nx : x ≠ "__name__" := by decide) (dx : (x == ("__debug__" : Str)) = false := by decide) (ny : y ≠ "__name__" := by decide) (dy : (y == ("__debug__" : Str)) = false := by decide) (he : starEach [e] X.env = (false, eval e X.env) :: starEach [] X.env := by rfl) :
    PE X (.Call (.Name x p1) [.Call (.Name y p2) [e] [] q2] [] q1) (tCB (rSortSetT X.K) t) := by
  intro pins s σ H Q I h
  refine wpAny_Call_Name_kw (ld_blt I gx mx vx (PyProof.Rows.callWith_builtin1 ?_ rfl rfl) nx dx)
  change wpAny _ _ (spliced ((false, eval (.Call (.Name y p2) [e] [] q2) X.env) :: backTo q1 (starEach [] X.env))) _ _ s
  refine Calls.spliced_cons (wpAny_Call_Name_kw (ld_blt I gy my vy (PyProof.Rows.callWith_type1 (thn (ha q2 pins s σ H _ I h) fun us s1 ⟨vs, H1, I1, r1, z⟩ => ?_) he rfl) ny dy))
  obtain ⟨a, ks, rfl, hs, hl, q⟩ := z
  rw [Vals.ref1 r1]
  obtain ⟨its, rv, ht, hz⟩ := I1.tuple hs
  have hi := rv.ints
  have hlen : its.length = ks.length := by rw [← rv.length, List.length_map]
  refine wpAny_mono (ST.sorted_of_setT (P := fun u s' => EP X pins σ Q u s') hh (items := its.toArray) (ks := ks) ht (by simpa using hi) (by simp; omega) fun out ns h' p ep tk' m1 m2 m3 m4 m5 m6 m7 => ?_) (fun u s' z => Calls.spliced_nil z) fun _ _ z => z
  have hle : (ns.map V.int).length ≤ sizeLine := by
    rw [List.length_map]
    rw [List.length_map] at hz
    have : its.toArray.size = ks.length := by simp [hlen]
    omega
  exact ⟨.ref p, upd H1 p (.lst (ns.map V.int)), I1.laid (t' := tk') m6 m5 ⟨hle, _, ep, vals_of_ints m1, m7⟩, rfl, q ns p m2 m3 (I1.hok.fresh m5)⟩
def rMaxT (K : PySem.W.Frag) : List V → Hp → VK → Prop := fun vs H Q => ∃ (a : Addr) (ns : List Int), vs = [V.ref a] ∧ SqT K H a (ns.map V.int) ∧ 0 < ns.length ∧ ∀ m, m ∈ ns → (∀ y, y ∈ ns → y ≤ m) → Q (.int m) H
theorem cr_maxT (hc : X.calm = true) : CallR X (.builtin "max") (rMaxT X.K) := by
  intro pins s σ H vs us Q I r h
  obtain ⟨a, ns, rfl, hs, hne, q⟩ := h
  obtain ⟨its, rv, hl, _⟩ := I.tuple hs
  rw [Vals.ref1 r]
  have hi := rv.ints
  obtain ⟨xs, e⟩ := hi.allInts.items
  have hn : numsOf (intItems xs).toList = ns := by rw [← e]; exact hi.numsOf
  rw [nums_intItems] at hn
  subst hn
  have hl' : s.heap.IsTuple a its.toArray := hl
  rw [e] at hl'
  refine ST.max_tupleG (I.ok.hd hc) hl' (by simpa using hne) fun v h' tk hv hk => ?_
  obtain ⟨t, rfl⟩ := intItems_at hv
  obtain ⟨h1, h2⟩ := argBest_gt (numAt xs) (xs.size - 1)
  have hsz : 0 < xs.size := by simpa using hne
  refine ⟨.int _, H, I.kept hk, ⟨_, rfl⟩, q _ ?_ fun a ha => ?_⟩
  · rw [numAt_eq]; exact PySem.getD_mem (by rw [List.length_map, Array.length_toList]; omega)
  · obtain ⟨j, hj, rfl⟩ := mem_getD ha
    rw [List.length_map, Array.length_toList] at hj
    rw [← numAt_eq]; exact h2 j (by omega)
end
def pMaxT : PSp
  | [.tup xs], S, Q => ∃ ns : List Int, xs = ns.map PV.int ∧ 0 < ns.length ∧ ∀ m, m ∈ ns → (∀ y, y ∈ ns → y ≤ m) → Q (.int m) S
  | _, _, _ => False
theorem b_maxT {X : Cx} (hc : X.calm = true) : CR1 X (.builtin "max") pMaxT := ⟨_, cr_maxT hc, fun ι H S xs vs Qp Q s rx h k => by
  match xs, rx, h with
  | [.tup ys], rx, ⟨ns, hs, hl, q⟩ =>
    obtain ⟨v, rfl, r⟩ := rx.one
    cases r with
    | tup ha ra =>
      subst hs
      rw [ra.ints_of] at ha
      exact ⟨_, ns, rfl, ha.sq, hl, fun m a b => k ι H S _ _ .refl s (.int _) (q m a b)⟩⟩
def pSortSetT : PSp
  | [.tup xs], S, Q => ∃ ks : List Int, xs = ks.map PV.int ∧ ks.length < 306 ∧ ∀ ns : List Int, (∀ k, k ∈ ns ↔ k ∈ ks) → ns.Pairwise (· < ·) → Q (.ref S.length) (S ++ [.lst (ns.map PV.int)])
  | _, _, _ => False
theorem kp_sortSetT {K : PySem.W.Frag} : KpN K pSortSetT (rSortSetT K) := fun ι H S xs vs Qp Q s rx h k => by
  match xs, rx, h with
  | [.tup ys], rx, ⟨ks, hy, hl, q⟩ =>
    obtain ⟨v, rfl, r⟩ := rx.one
    cases r with
    | tup ha ra =>
      subst hy
      rw [ra.ints_of] at ha
      exact ⟨_, ks, rfl, ha.sq, hl, fun ns p m1 m2 hp => new_list s (rvs_of_ints ns) k (q ns m1 m2) p hp⟩
section
variable {X : Cx} {x y : Str} {p1 p2 q1 q2 : Pos} {e : Expr} {g : WA} {k : Nat}
theorem j_sortSetT (hr : Room k X.A) (mx : X.mg x = none) (vx : bootBuiltins x = some (.builtin "sorted")) (my : X.mg y = none) (vy : bootBuiltins y = some (.type "set")) (ha : JA X [e] g) (gx : Gl X x := by rfl) (gy : Gl X y := by rfl)
    (nx : x ≠ "__name__" := by decide) (dx : (x == ("__debug__" : Str)) = false := by decide) (ny : y ≠ "__name__" := by decide) (dy : (y == ("__debug__" : Str)) = false := by decide) (he : starEach [e] X.env = (false, eval e X.env) :: starEach [] X.env := by rfl) :
    JE X (.Call (.Name x p1) [.Call (.Name y p2) [e] [] q2] [] q1) (wCall pSortSetT g) :=
  ⟨pe_imp (pe_sortSetT hr.hd gx mx vx gy my vy ha.pa nx dx ny dy he) (tCB_of kp_sortSetT)⟩
end
end M

/-! A place in a list. -/
namespace M
open PySem PySem.Spec PyProof.Rows L2
variable [Tabs]
theorem m_indexL {X : Cx} : MT1 X "list" "list.index" pIndexL := ⟨_, mt_index, fun ι H S x v xs vs Qp Q s rx rs h k => by
  match x, xs, rx, rs, h with
  | .ref n, [y], .ref ha, rs, ⟨ys, j, z, hs, f1, f2, e1, e2, no, q⟩ =>
    obtain ⟨w, rfl, ry⟩ := rs.one
    obtain ⟨ws, h1, ra⟩ := s.sl ha hs
    obtain ⟨u, hu, ru⟩ := ra.get e1
    refine ⟨_, _, w, j, u, rfl, rfl, h1, ry.flat f1, ra.flat f2, hu, ?_, fun m z' hm hz' => ?_, k ι H S _ _ .refl s (.int _) q⟩
    · rw [ru.eqP ry (List.all_eq_true.mp f2 _ (List.mem_of_getElem? e1)) f1]; exact e2
    · obtain ⟨p', hp', rp'⟩ := ra.get' hz'
      rw [rp'.eqP ry (List.all_eq_true.mp f2 _ (List.mem_of_getElem? hp')) f1]
      exact no m p' hm hp'⟩
end M

namespace k09
open PySem L2 M
def N_is_whole : List Str := ["thing"]
def w_is_whole : WS :=
    (wRet (wAndV (wCall pIsi (wCons (wVar 0) (wCons (wC (.ty "int")) wNil))) (wNotV (wCall pIsi (wCons (wVar 0) (wCons (wC (.ty "bool")) wNil))))))
def N_is_number_below : List Str := ["thing", "many"]
def w_is_number_below (sp_is_whole : PSp) : WS :=
    (wRet (wAndV (wCall sp_is_whole (wCons (wVar 0) wNil)) (wChain bLe bLt (wC (.int 0)) (wVar 0) (wVar 1))))
def N_is_set : List Str := ["n", "thing", "last", "place"]
def w_is_set (sp_is_number_below : PSp) : WS :=
    (wSeq (wIfS (wNotT (wTru (wCall pIsi (wCons (wVar 1) (wCons (wC (.ty "tuple")) wNil))))) (wRet (wC (.bl false))) wNext)
    (wSeq (wAsg (wUn bNeg (wC (.int 1))) (pName 2))
    (wSeq (wFor (wISeq (wVar 1)) (pName 3) (wSeq (wIfS (wOrT (wNotT (wTru (wCall sp_is_number_below (wCons (wVar 3) (wCons (wVar 0) wNil))))) (wB (wOp bLe (wVar 3) (wVar 2)))) (wRet (wC (.bl false))) wNext)
    (wAsg (wVar 3) (pName 2))))
    (wRet (wC (.bl true))))))
def N_set_text : List Str := ["some", "place"]
def w_set_text : WS :=
    (wSeq (wIfS (wNotT (wTru (wVar 0))) (wRet (wC (.str (Str.ofString "-")))) wNext)
    (wRet (wMeth "str" pJoin (wC (.str (Str.ofString ","))) (wCons (wLc 1 (wISeq (wVar 0)) wYes (wCall pStr (wCons (wVar 1) wNil))) wNil))))
def N_read_set : List Str := ["n", "text", "words", "some", "word"]
def w_read_set (sp_is_set : PSp) : WS :=
    (wSeq (wIfS (wB (wOp (bEq false) (wVar 1) (wC (.str (Str.ofString "-"))))) (wRet (wTup wNil)) wNext)
    (wSeq (wAsg (wMeth "str" pSplit (wVar 1) (wCons (wC (.str (Str.ofString ","))) wNil)) (pName 2))
    (wSeq (wIfS (wNotT (wTru (wGen true 4 (wISeq (wVar 2)) wYes (wOp (bIn false) (wVar 4) (wC (.tup (([(Str.ofString "0"), (Str.ofString "1"), (Str.ofString "2"), (Str.ofString "3"), (Str.ofString "4"), (Str.ofString "5"), (Str.ofString "6"), (Str.ofString "7"), (Str.ofString "8")] : List Str).map PV.str))))))) (wRet (wC .non)) wNext)
    (wSeq (wAsg (wCall pTuple (wCons (wLc 4 (wISeq (wVar 2)) wYes (wCall pInt (wCons (wVar 4) wNil))) wNil)) (pName 3))
    (wRet (wIf (wTru (wCall sp_is_set (wCons (wVar 0) (wCons (wVar 3) wNil)))) (wVar 3) (wC .non)))))))
def N_l_feed : List Str := ["_law_script"]
def w_l_feed : WS :=
    (wRet (wDisp (((wC (.str (Str.ofString "cells"))), (wCall pList (wCons (wSl (wVar 0) wNoPart (wPart (wC (.int 63)))) wNil))) :: (((wC (.str (Str.ofString "at"))), (wC (.int 0))) :: (((wC (.str (Str.ofString "left"))), (wC (.int 0))) :: (((wC (.str (Str.ofString "turn"))), (wC (.int 0))) :: []))))))
def N_l_draw : List Str := ["_law_feed_here", "_law_many", "_law_turn", "_law_at", "_law_cell", "_law_mixed", "_law_found"]
def w_l_draw : WS :=
    (wSeq (wAsg (wOp bAdd (wDGet (wVar 0) (wC (.str (Str.ofString "turn")))) (wC (.int 1))) (pName 2))
    (wSeq (wDPut (wVar 0) (wC (.str (Str.ofString "turn"))) (wVar 2))
    (wSeq (wIfS (wB (wOp bGt (wDGet (wVar 0) (wC (.str (Str.ofString "left")))) (wC (.int 0)))) (wSeq (wAsg (wOp bMod (wDGet (wVar 0) (wC (.str (Str.ofString "left")))) (wVar 1)) (pName 6))
    (wSeq (wDPut (wVar 0) (wC (.str (Str.ofString "left"))) (wOp bFdiv (wDGet (wVar 0) (wC (.str (Str.ofString "left")))) (wVar 1)))
    (wRet (wVar 6)))) wNext)
    (wSeq (wAsg (wDGet (wVar 0) (wC (.str (Str.ofString "at")))) (pName 3))
    (wSeq (wDPut (wVar 0) (wC (.str (Str.ofString "at"))) (wOp bAdd (wVar 3) (wC (.int 1))))
    (wSeq (wAsg (wIf (wB (wOp (bEq true) (wDGet (wVar 0) (wC (.str (Str.ofString "cells")))) (wLst wNil))) (wOp bIdx (wDGet (wVar 0) (wC (.str (Str.ofString "cells")))) (wOp bMod (wVar 3) (wCall pLen (wCons (wDGet (wVar 0) (wC (.str (Str.ofString "cells")))) wNil)))) (wC (.int 11))) (pName 4))
    (wSeq (wIfS (wAndT (wB (wOp bGe (wVar 4) (wOp bPow (wC (.int 10)) (wC (.int 18))))) (wB (wOp bLt (wVar 3) (wCall pLen (wCons (wDGet (wVar 0) (wC (.str (Str.ofString "cells")))) wNil))))) (wSeq (wDPut (wVar 0) (wC (.str (Str.ofString "left"))) (wOp bFdiv (wVar 4) (wVar 1)))
    (wRet (wOp bMod (wVar 4) (wVar 1)))) wNext)
    (wSeq (wAsg (wOp bMod (wOp bMul (wOp bAdd (wOp bMod (wVar 4) (wC (.int 1000003))) (wC (.int 40692))) (wOp bAdd (wOp bMul (wVar 2) (wVar 2)) (wC (.int 17)))) (wC (.int 2147483647))) (pName 5))
    (wRet (wOp bMod (wOp bFdiv (wOp bMod (wOp bPow (wVar 5) (wC (.int 5))) (wC (.int 2147483629))) (wC (.int 64))) (wVar 1)))))))))))
def N_l_set : List Str := ["_law_code", "_law_place"]
def w_l_set : WS :=
    (wRet (wCall pTuple (wCons (wLc 1 (wRange1 (wCons (wC (.int 8)) wNil)) (wB (wOp (bEq false) (wOp bAnd (wOp bShr (wVar 0) (wVar 1)) (wC (.int 1))) (wC (.int 1)))) (wVar 1)) wNil)))
def N_l_read : List Str := ["_law_n", "_law_text", "_law_parts", "_law_figures", "_law_found", "_law_part"]
def w_l_read : WS :=
    (wSeq (wIfS (wB (wOp (bEq false) (wVar 1) (wC (.str (Str.ofString "-"))))) (wRet (wTup wNil)) wNext)
    (wSeq (wAsg (wMeth "str" pSplit (wVar 1) (wCons (wC (.str (Str.ofString ","))) wNil)) (pName 2))
    (wSeq (wAsg (wSl (wLst (wCons (wC (.str (Str.ofString "0"))) (wCons (wC (.str (Str.ofString "1"))) (wCons (wC (.str (Str.ofString "2"))) (wCons (wC (.str (Str.ofString "3"))) (wCons (wC (.str (Str.ofString "4"))) (wCons (wC (.str (Str.ofString "5"))) (wCons (wC (.str (Str.ofString "6"))) (wCons (wC (.str (Str.ofString "7"))) wNil))))))))) wNoPart (wPart (wVar 0))) (pName 3))
    (wSeq (wIfS (wB (wOp (bEq true) (wLc 5 (wISeq (wVar 2)) (wB (wOp (bIn true) (wVar 5) (wVar 3))) (wVar 5)) (wLst wNil))) (wRet (wC .non)) wNext)
    (wSeq (wAsg (wCall pTuple (wCons (wLc 5 (wISeq (wVar 2)) wYes (wMeth "list" pIndexL (wVar 3) (wCons (wVar 5) wNil))) wNil)) (pName 4))
    (wRet (wIf (wB (wOp (bEq false) (wCall pList (wCons (wVar 4) wNil)) (wCall pSortSetT (wCons (wVar 4) wNil)))) (wVar 4) (wC .non))))))))
def N_l_signed : List Str := ["_law_feed_here", "_law_text", "_law_signs", "_law_way", "_law_at", "_law_sign"]
def w_l_signed (sp_l_draw : PSp) : WS :=
    (wSeq (wAsg (wC (.str (Str.ofString " !\"#$&'()*+,-./0123456789:;<=>?@ABCDEFGHIJKLMNOPQRSTUVWXYZ[\\]^_`"))) (pName 2))
    (wSeq (wAsg (wOp bAdd (wVar 2) (wC (.str (Str.ofString "abcdefghijklmnopqrstuvwxyz{|}~")))) (pName 2))
    (wSeq (wAsg (wCall sp_l_draw (wCons (wVar 0) (wCons (wC (.int 3)) wNil))) (pName 3))
    (wSeq (wAsg (wCall sp_l_draw (wCons (wVar 0) (wCons (wOp bAdd (wCall pLen (wCons (wVar 1) wNil)) (wC (.int 1))) wNil))) (pName 4))
    (wSeq (wAsg (wOp bIdx (wVar 2) (wCall sp_l_draw (wCons (wVar 0) (wCons (wC (.int 94)) wNil)))) (pName 5))
    (wRet (wOp bAdd (wOp bAdd (wSl (wVar 1) wNoPart (wPart (wVar 4))) (wOp bIdx (wLst (wCons (wVar 5) (wCons (wC (.str (Str.ofString ""))) (wCons (wVar 5) wNil)))) (wVar 3))) (wSl (wVar 1) (wPart (wOp bAdd (wVar 4) (wCall pInt (wCons (wOp bGt (wVar 3) (wC (.int 0))) wNil)))) wNoPart))))))))
def N_l_spoilt : List Str := ["_law_feed_here", "_law_text", "_law_way", "_law_parts", "_law_some", "_law_at", "_law_other"]
def w_l_spoilt (sp_l_draw : PSp) (sp_l_signed : PSp) : WS :=
    (wSeq (wAsg (wCall sp_l_draw (wCons (wVar 0) (wCons (wC (.int 7)) wNil))) (pName 2))
    (wSeq (wIfS (wB (wOp bLt (wVar 2) (wC (.int 3)))) (wRet (wCall sp_l_signed (wCons (wVar 0) (wCons (wVar 1) wNil)))) wNext)
    (wSeq (wIfS (wB (wOp (bEq false) (wVar 2) (wC (.int 6)))) (wSeq (wAsg (wLst (wCons (wC (.str (Str.ofString ""))) (wCons (wC (.str (Str.ofString "-"))) (wCons (wC (.str (Str.ofString ","))) (wCons (wC (.str (Str.ofString "0"))) (wCons (wC (.str (Str.ofString "--"))) (wCons (wC (.str (Str.ofString "-,0"))) (wCons (wC (.str (Str.ofString "0,-"))) (wCons (wC (.str (Str.ofString "00"))) (wCons (wC (.str (Str.ofString "0,1,2,3,4,5,6,7"))) (wCons (wC (.str (Str.ofString "8"))) (wCons (wC (.str (Str.ofString "0, 1"))) (wCons (wC (.str (Str.ofString " 0"))) wNil))))))))))))) (pName 4))
    (wRet (wOp bIdx (wOp bAdd (wVar 4) (wLst (wCons (wC (.str (Str.ofString "1,0"))) (wCons (wC (.str (Str.ofString "0,0"))) (wCons (wC (.str (Str.ofString "0,"))) wNil))))) (wCall sp_l_draw (wCons (wVar 0) (wCons (wC (.int 15)) wNil)))))) wNext)
    (wSeq (wAsg (wMeth "str" pSplit (wVar 1) (wCons (wC (.str (Str.ofString ","))) wNil)) (pName 3))
    (wSeq (wPar 5 6 (wCons (wCall sp_l_draw (wCons (wVar 0) (wCons (wCall pLen (wCons (wVar 3) wNil)) wNil))) (wCons (wCall sp_l_draw (wCons (wVar 0) (wCons (wCall pLen (wCons (wVar 3) wNil)) wNil))) wNil)))
    (wSeq (wIfS (wB (wOp (bEq false) (wVar 2) (wC (.int 3)))) (wAsg (wOp bAdd (wSl (wVar 3) wNoPart (wPart (wVar 5))) (wSl (wVar 3) (wPart (wOp bAdd (wVar 5) (wC (.int 1)))) wNoPart)) (pName 3)) (wIfS (wB (wOp (bEq false) (wVar 2) (wC (.int 4)))) (wAsg (wOp bAdd (wSl (wVar 3) wNoPart (wPart (wOp bAdd (wVar 5) (wC (.int 1))))) (wSl (wVar 3) (wPart (wVar 5)) wNoPart)) (pName 3)) (wAsg (wTup (wCons (wOp bIdx (wVar 3) (wVar 6)) (wCons (wOp bIdx (wVar 3) (wVar 5)) wNil))) (pGTup 2 (pGCons (pItem (wVar 3) (wVar 5)) (pGCons (pItem (wVar 3) (wVar 6)) pGNil))))))
    (wRet (wMeth "str" pJoin (wC (.str (Str.ofString ","))) (wCons (wVar 3) wNil)))))))))
def N_law : List Str := ["_law_script", "_law_feed_here", "_law_turn", "_law_spoils", "_law_some", "_law_text", "_law_n", "_law_k", "_law_again", "_law_due", "_law_place"]
def w_law (sp_l_feed : PSp) (sp_l_draw : PSp) (sp_l_set : PSp) (sp_set_text : PSp) (sp_read_set : PSp) (sp_l_spoilt : PSp) (sp_l_read : PSp) : WS :=
    (wSeq (wAsg (wCall sp_l_feed (wCons (wVar 0) wNil)) (pName 1))
    (wSeq (wFor (wRange1 (wCons (wC (.int 6)) wNil)) (pName 2) (wSeq (wAsg (wCall sp_l_draw (wCons (wVar 1) (wCons (wC (.int 3)) wNil))) (pName 3))
    (wSeq (wAsg (wCall sp_l_set (wCons (wCall sp_l_draw (wCons (wVar 1) (wCons (wC (.int 256)) wNil))) wNil)) (pName 4))
    (wSeq (wAsg (wIf (wB (wOp (bEq true) (wVar 4) (wTup wNil))) (wMeth "str" pJoin (wC (.str (Str.ofString ","))) (wCons (wLc 10 (wISeq (wVar 4)) wYes (wCall pStr (wCons (wVar 10) wNil))) wNil)) (wC (.str (Str.ofString "-")))) (pName 5))
    (wSeq (wIfS (wB (wOp (bEq true) (wCall sp_set_text (wCons (wVar 4) wNil)) (wVar 5))) (wRet (wC (.bl false))) wNext)
    (wSeq (wFor (wISeq (wTup (wCons (wC (.int 8)) (wCons (wCall sp_l_draw (wCons (wVar 1) (wCons (wC (.int 9)) wNil))) wNil)))) (pName 6) (wSeq (wAsg (wIf (wB (wOp bLt (wCall pMaxT (wCons (wOp bAdd (wVar 4) (wTup (wCons (wUn bNeg (wC (.int 1))) wNil))) wNil)) (wVar 6))) (wVar 4) (wC .non)) (pName 9))
    (wIfS (wB (wOp (bEq true) (wCall pRepr (wCons (wCall sp_read_set (wCons (wVar 6) (wCons (wVar 5) wNil))) wNil)) (wCall pRepr (wCons (wVar 9) wNil)))) (wRet (wC (.bl false))) wNext)))
    (wSeq (wAsg (wCall sp_l_draw (wCons (wVar 1) (wCons (wC (.int 9)) wNil))) (pName 6))
    (wSeq (wFor (wRange1 (wCons (wVar 3) wNil)) (pName 7) (wAsg (wCall sp_l_spoilt (wCons (wVar 1) (wCons (wVar 5) wNil))) (pName 5)))
    (wFor (wRange1 (wCons (wC (.int 2)) wNil)) (pName 8) (wIfS (wB (wOp (bEq true) (wCall pRepr (wCons (wCall sp_read_set (wCons (wVar 6) (wCons (wVar 5) wNil))) wNil)) (wCall pRepr (wCons (wCall sp_l_read (wCons (wVar 6) (wCons (wVar 5) wNil))) wNil)))) (wRet (wC (.bl false))) wNext))))))))))
    (wRet (wC (.bl true)))))
end k09

namespace k09
open PySem PySem.Spec PyProof.Rows L2 M
variable [Tabs]
def top (i : Nat) : Stmt := PySem.Challenge.pw_rivalsets_k09_sets_written_and_read.main.body.getD i (.Pass ⟨0, 0, 0, 0⟩)
structure Blt (K : PySem.W.Frag) (mg : Str → Option Value) : Prop where
  loose : Loose
  all : mg "all" = none
  bool : mg "bool" = none
  int : mg "int" = none
  isinstance : mg "isinstance" = none
  len : mg "len" = none
  list : mg "list" = none
  max : mg "max" = none
  range : mg "range" = none
  repr : mg "repr" = none
  set : mg "set" = none
  sorted : mg "sorted" = none
  str : mg "str" = none
  tuple : mg "tuple" = none
  c_FIGURES : ∃ a, mg "FIGURES" = some (.ref a) ∧ KT K a (([(Str.ofString "0"), (Str.ofString "1"), (Str.ofString "2"), (Str.ofString "3"), (Str.ofString "4"), (Str.ofString "5"), (Str.ofString "6"), (Str.ofString "7"), (Str.ofString "8")] : List Str).map V.str)
  c_EMPTY : ∃ t, mg "EMPTY" = some (.str (Str.ofString "-") t)
section
variable {P : Program} {w : World} {K : PySem.W.Frag} {mg : Str → Option Value} {base : Heap}
abbrev s_is_whole : Stmt := top 1
theorem sc_is_whole : FnScope N_is_whole ["thing"] (defScope s_is_whole) := ⟨rfl, rfl, rfl, by decide +kernel, rfl, by decide +kernel, by decide +kernel⟩
theorem ok_is_whole {f : Addr} {fd : FuncData} {sp : PSp} (F : Fun K "is_whole" "is_whole" s_is_whole f fd) (B : Blt K mg) (len : ∀ vs S Q, sp vs S Q → vs.length = 1)
    (rd : ∀ vs S Q, sp vs S Q → w_is_whole { nx := fun _ S' => Q .non S', rt := Q } (startP N_is_whole vs) S) : FnOk P w K mg base CX0 1 f fd ["thing"] (liftSp K sp) := by
  refine def_ok (k := 0) F sc_is_whole len ⟨w_is_whole, fun cdv A outer s H E hr => ?_, rd⟩
  have nd := sc_is_whole.nd
  exact (jss_one (js_ret (j_and (j_blt b_isi B.isinstance (by rfl) (ja_cons (jv 0) (ja_cons (j_tyname "int" B.int) ja_nil))) (j_one (j_not (j_blt b_isi B.isinstance (by rfl) (ja_cons (jv 0) (ja_cons (j_tyname "bool" B.bool) ja_nil))))))))
abbrev s_is_number_below : Stmt := top 2
theorem sc_is_number_below : FnScope N_is_number_below ["thing", "many"] (defScope s_is_number_below) := ⟨rfl, rfl, rfl, by decide +kernel, rfl, by decide +kernel, by decide +kernel⟩
theorem ok_is_number_below {f : Addr} {fd : FuncData} {sp : PSp} (F : Fun K "is_number_below" "is_number_below" s_is_number_below f fd) (B : Blt K mg) {sp_is_whole : PSp} (F_is_whole : Fn P w K mg base 1 "is_whole" sp_is_whole) (len : ∀ vs S Q, sp vs S Q → vs.length = 2)
    (rd : ∀ vs S Q, sp vs S Q → w_is_number_below sp_is_whole { nx := fun _ S' => Q .non S', rt := Q } (startP N_is_number_below vs) S) : FnOk P w K mg base CX0 2 f fd ["thing", "many"] (liftSp K sp) := by
  refine def_ok (k := 1) F sc_is_number_below len ⟨w_is_number_below sp_is_whole, fun cdv A outer s H E hr => ?_, rd⟩
  have nd := sc_is_number_below.nd
  exact (jss_one (js_ret (j_and (j_call F_is_whole (hr.mono (by decide)) (ja_cons (jv 0) ja_nil)) (j_one (j_chain o_le (o_lt hr.units0) j_int (jv 0) (jv 1))))))
abbrev s_is_set : Stmt := top 4
theorem sc_is_set : FnScope N_is_set ["n", "thing"] (defScope s_is_set) := ⟨rfl, rfl, rfl, by decide +kernel, rfl, by decide +kernel, by decide +kernel⟩
theorem ok_is_set {f : Addr} {fd : FuncData} {sp : PSp} (F : Fun K "is_set" "is_set" s_is_set f fd) (B : Blt K mg) {sp_is_number_below : PSp} (F_is_number_below : Fn P w K mg base 2 "is_number_below" sp_is_number_below) (len : ∀ vs S Q, sp vs S Q → vs.length = 2)
    (rd : ∀ vs S Q, sp vs S Q → w_is_set sp_is_number_below { nx := fun _ S' => Q .non S', rt := Q } (startP N_is_set vs) S) : FnOk P w K mg base CX0 3 f fd ["n", "thing"] (liftSp K sp) := by
  refine def_ok (k := 2) F sc_is_set len ⟨w_is_set sp_is_number_below, fun cdv A outer s H E hr => ?_, rd⟩
  have nd := sc_is_set.nd
  exact (jss_cons (js_if (jt_not (jt_tru (j_blt b_isi B.isinstance (by rfl) (ja_cons (jv 1) (ja_cons (j_tyname "tuple" B.tuple) ja_nil))))) (jss_one (js_ret j_bl)) jss_nil)
      (jss_cons (js_set 2 nd (j_neg j_int))
      (jss_cons (js_for (ji_seq (jv 1)) (jg_name 3 nd) (jss_cons (js_if (JW.jt (jw_or (jt_not (jt_tru (j_call F_is_number_below (hr.mono (by decide)) (ja_cons (jv 3) (ja_cons (jv 0) ja_nil))))) (jw_or1 (jt_cmp o_le (jv 3) (jv 2) (nomark _))))) (jss_one (js_ret j_bl)) jss_nil)
      (jss_one (js_set 2 nd (jv 3)))))
      (jss_one (js_ret j_bl)))))
abbrev s_set_text : Stmt := top 8
theorem sc_set_text : FnScope N_set_text ["some"] (defScope s_set_text) := ⟨rfl, rfl, rfl, by decide +kernel, rfl, by decide +kernel, by decide +kernel⟩
theorem ok_set_text {f : Addr} {fd : FuncData} {sp : PSp} (F : Fun K "set_text" "set_text" s_set_text f fd) (B : Blt K mg) (len : ∀ vs S Q, sp vs S Q → vs.length = 1)
    (rd : ∀ vs S Q, sp vs S Q → w_set_text { nx := fun _ S' => Q .non S', rt := Q } (startP N_set_text vs) S) : FnOk P w K mg base CX0 1 f fd ["some"] (liftSp K sp) := by
  refine def_ok (k := 0) F sc_set_text len ⟨w_set_text, fun cdv A outer s H E hr => ?_, rd⟩
  have nd := sc_set_text.nd
  exact (jss_cons (js_if (jt_not (jt_tru (jv 0))) (jss_one (js_ret (j_gstr B.c_EMPTY))) jss_nil)
      (jss_one (js_ret (j_meth m_join PySem.F.plainAttrs_str PySem.F.slot_str_join PySem.F.type_str_join j_str (ja_cons (j_lc 1 nd (ji_seq (jv 0)) (by rfl) (fun _ _ _ _ _ => jts_nil) (fun _ _ _ _ _ => (j_bty b_str B.str (by rfl) (ja_cons (jv 1) ja_nil)))) ja_nil)))))
abbrev s_read_set : Stmt := top 9
theorem sc_read_set : FnScope N_read_set ["n", "text"] (defScope s_read_set) := ⟨rfl, rfl, rfl, by decide +kernel, rfl, by decide +kernel, by decide +kernel⟩
theorem ok_read_set {f : Addr} {fd : FuncData} {sp : PSp} (F : Fun K "read_set" "read_set" s_read_set f fd) (B : Blt K mg) (bm : BMod mg base) (cdf : CodeAt K fd.code) {sp_is_set : PSp} (F_is_set : Fn P w K mg base 3 "is_set" sp_is_set) (len : ∀ vs S Q, sp vs S Q → vs.length = 2)
    (rd : ∀ vs S Q, sp vs S Q → w_read_set sp_is_set { nx := fun _ S' => Q .non S', rt := Q } (startP N_read_set vs) S) : FnOk P w K mg base CX0 4 f fd ["n", "text"] (liftSp K sp) := by
  refine def_okG (k := 3) F cdf sc_read_set len ⟨w_read_set sp_is_set, fun cdv A outer s H E cd hr => ?_, rd⟩
  have nd := sc_read_set.nd
  exact (jss_cons (js_if (jt_cmp (o_eq hr.units) (jv 1) (j_gstr B.c_EMPTY) (nomark _)) (jss_one (js_ret (j_tup ja_nil))) jss_nil)
      (jss_cons (js_set 2 nd (j_meth m_split PySem.F.plainAttrs_str PySem.F.slot_str_split PySem.F.type_str_split (jv 1) (ja_cons j_str ja_nil)))
      (jss_cons (js_if (jt_not (jt_tru (j_gen true 4 nd hr bm cd B.all (by rfl) (ji_seq (jv 2)) (by rfl) (fun _ _ _ _ _ _ _ hr => jts_nil) (fun _ _ _ _ _ _ _ hr => (j_cmp o_in (jv 4) (j_gtup B.loose B.c_FIGURES) (by rfl)))))) (jss_one (js_ret j_non)) jss_nil)
      (jss_cons (js_set 3 nd (j_bty b_tuple B.tuple (by rfl) (ja_cons (j_lc 4 nd (ji_seq (jv 2)) (by rfl) (fun _ _ _ _ _ => jts_nil) (fun _ _ _ _ _ => (j_bty b_int B.int (by rfl) (ja_cons (jv 4) ja_nil)))) ja_nil)))
      (jss_one (js_ret (j_if (jt_tru (j_call F_is_set (hr.mono (by decide)) (ja_cons (jv 0) (ja_cons (jv 3) ja_nil)))) (jv 3) j_non)))))))
abbrev s_l_feed : Stmt := top 11
theorem sc_l_feed : FnScope N_l_feed ["_law_script"] (defScope s_l_feed) := ⟨rfl, rfl, rfl, by decide +kernel, rfl, by decide +kernel, by decide +kernel⟩
theorem ok_l_feed {f : Addr} {fd : FuncData} {sp : PSp} (F : Fun K "_law_feed" "_law_feed" s_l_feed f fd) (B : Blt K mg) (len : ∀ vs S Q, sp vs S Q → vs.length = 1)
    (rd : ∀ vs S Q, sp vs S Q → w_l_feed { nx := fun _ S' => Q .non S', rt := Q } (startP N_l_feed vs) S) : FnOk P w K mg base CX0 1 f fd ["_law_script"] (liftSp K sp) := by
  refine def_ok (k := 0) F sc_l_feed len ⟨w_l_feed, fun cdv A outer s H E hr => ?_, rd⟩
  have nd := sc_l_feed.nd
  exact (jss_one (js_ret (j_disp (jp_cons j_str (j_bty b_list B.list (by rfl) (ja_cons (j_slice (jv 0) jo_none (jo_some j_int)) ja_nil)) (jp_cons j_str j_int (jp_cons j_str j_int (jp_cons j_str j_int jp_nil)))))))
abbrev s_l_draw : Stmt := top 12
theorem sc_l_draw : FnScope N_l_draw ["_law_feed_here", "_law_many"] (defScope s_l_draw) := ⟨rfl, rfl, rfl, by decide +kernel, rfl, by decide +kernel, by decide +kernel⟩
theorem ok_l_draw {f : Addr} {fd : FuncData} {sp : PSp} (F : Fun K "_law_draw" "_law_draw" s_l_draw f fd) (B : Blt K mg) (len : ∀ vs S Q, sp vs S Q → vs.length = 2)
    (rd : ∀ vs S Q, sp vs S Q → w_l_draw { nx := fun _ S' => Q .non S', rt := Q } (startP N_l_draw vs) S) : FnOk P w K mg base CX0 1 f fd ["_law_feed_here", "_law_many"] (liftSp K sp) := by
  refine def_ok (k := 0) F sc_l_draw len ⟨w_l_draw, fun cdv A outer s H E hr => ?_, rd⟩
  have nd := sc_l_draw.nd
  exact (jss_cons (js_set 2 nd (j_op o_add (j_dget (hu_of hr) (jv 0) j_str) j_int))
      (jss_cons (js_dput (hu_of hr) (jv 0) j_str (jv 2))
      (jss_cons (js_if (jt_cmp o_gt (j_dget (hu_of hr) (jv 0) j_str) j_int (nomark _)) (jss_cons (js_set 6 nd (j_op o_mod (j_dget (hu_of hr) (jv 0) j_str) (jv 1)))
      (jss_cons (js_dput (hu_of hr) (jv 0) j_str (j_op o_fdiv (j_dget (hu_of hr) (jv 0) j_str) (jv 1)))
      (jss_one (js_ret (jv 6))))) jss_nil)
      (jss_cons (js_set 3 nd (j_dget (hu_of hr) (jv 0) j_str))
      (jss_cons (js_dput (hu_of hr) (jv 0) j_str (j_op o_add (jv 3) j_int))
      (jss_cons (js_set 4 nd (j_if (jt_cmp (o_ne hr.units) (j_dget (hu_of hr) (jv 0) j_str) (j_lst ja_nil) (nomark _)) (j_idx (j_dget (hu_of hr) (jv 0) j_str) (j_op o_mod (jv 3) (j_blt b_len B.len (by rfl) (ja_cons (j_dget (hu_of hr) (jv 0) j_str) ja_nil)))) j_int))
      (jss_cons (js_if (JW.jt (jw_and (jt_cmp o_ge (jv 4) (j_op o_pow j_int j_int) (nomark _)) (jw_and1 (jt_cmp (o_lt hr.units0) (jv 3) (j_blt b_len B.len (by rfl) (ja_cons (j_dget (hu_of hr) (jv 0) j_str) ja_nil)) (nomark _))))) (jss_cons (js_dput (hu_of hr) (jv 0) j_str (j_op o_fdiv (jv 4) (jv 1)))
      (jss_one (js_ret (j_op o_mod (jv 4) (jv 1))))) jss_nil)
      (jss_cons (js_set 5 nd (j_op o_mod (j_op o_mul (j_op o_add (j_op o_mod (jv 4) j_int) j_int) (j_op o_add (j_op o_mul (jv 2) (jv 2)) j_int)) j_int))
      (jss_one (js_ret (j_op o_mod (j_op o_fdiv (j_op o_mod (j_op o_pow (jv 5) j_int) j_int) j_int) (jv 1))))))))))))
abbrev s_l_set : Stmt := top 13
theorem sc_l_set : FnScope N_l_set ["_law_code"] (defScope s_l_set) := ⟨rfl, rfl, rfl, by decide +kernel, rfl, by decide +kernel, by decide +kernel⟩
theorem ok_l_set {f : Addr} {fd : FuncData} {sp : PSp} (F : Fun K "_law_set" "_law_set" s_l_set f fd) (B : Blt K mg) (len : ∀ vs S Q, sp vs S Q → vs.length = 1)
    (rd : ∀ vs S Q, sp vs S Q → w_l_set { nx := fun _ S' => Q .non S', rt := Q } (startP N_l_set vs) S) : FnOk P w K mg base CX0 1 f fd ["_law_code"] (liftSp K sp) := by
  refine def_ok (k := 0) F sc_l_set len ⟨w_l_set, fun cdv A outer s H E hr => ?_, rd⟩
  have nd := sc_l_set.nd
  exact (jss_one (js_ret (j_bty b_tuple B.tuple (by rfl) (ja_cons (j_lc 1 nd (ji_range1 B.range (ja_cons j_int ja_nil)) (by rfl) (fun _ _ _ _ _ => (jts_one (jt_cmp (o_eq hr.units) (j_op o_and (j_op o_shr (jv 0) (jv 1)) j_int) j_int (nomark _)))) (fun _ _ _ _ _ => (jv 1))) ja_nil))))
abbrev s_l_read : Stmt := top 14
theorem sc_l_read : FnScope N_l_read ["_law_n", "_law_text"] (defScope s_l_read) := ⟨rfl, rfl, rfl, by decide +kernel, rfl, by decide +kernel, by decide +kernel⟩
theorem ok_l_read {f : Addr} {fd : FuncData} {sp : PSp} (F : Fun K "_law_read" "_law_read" s_l_read f fd) (B : Blt K mg) (len : ∀ vs S Q, sp vs S Q → vs.length = 2)
    (rd : ∀ vs S Q, sp vs S Q → w_l_read { nx := fun _ S' => Q .non S', rt := Q } (startP N_l_read vs) S) : FnOk P w K mg base CX0 1 f fd ["_law_n", "_law_text"] (liftSp K sp) := by
  refine def_ok (k := 0) F sc_l_read len ⟨w_l_read, fun cdv A outer s H E hr => ?_, rd⟩
  have nd := sc_l_read.nd
  exact (jss_cons (js_if (jt_cmp (o_eq hr.units) (jv 1) j_str (nomark _)) (jss_one (js_ret (j_tup ja_nil))) jss_nil)
      (jss_cons (js_set 2 nd (j_meth m_split PySem.F.plainAttrs_str PySem.F.slot_str_split PySem.F.type_str_split (jv 1) (ja_cons j_str ja_nil)))
      (jss_cons (js_set 3 nd (j_slice (j_lst (ja_cons j_str (ja_cons j_str (ja_cons j_str (ja_cons j_str (ja_cons j_str (ja_cons j_str (ja_cons j_str (ja_cons j_str ja_nil))))))))) jo_none (jo_some (jv 0))))
      (jss_cons (js_if (jt_cmp (o_ne hr.units) (j_lc 5 nd (ji_seq (jv 2)) (by rfl) (fun _ _ _ _ _ => (jts_one (jt_cmp o_notin (jv 5) (jv 3) (by rfl)))) (fun _ _ _ _ _ => (jv 5))) (j_lst ja_nil) (nomark _)) (jss_one (js_ret j_non)) jss_nil)
      (jss_cons (js_set 4 nd (j_bty b_tuple B.tuple (by rfl) (ja_cons (j_lc 5 nd (ji_seq (jv 2)) (by rfl) (fun _ _ _ _ _ => jts_nil) (fun _ _ _ _ _ => (j_meth m_indexL PySem.F.plainAttrs_list PySem.F.slot_list_index PySem.F.type_list_index (jv 3) (ja_cons (jv 5) ja_nil)))) ja_nil)))
      (jss_one (js_ret (j_if (jt_cmp (o_eq hr.units) (j_bty b_list B.list (by rfl) (ja_cons (jv 4) ja_nil)) (j_sortSetT hr B.sorted (by rfl) B.set (by rfl) (ja_cons (jv 4) ja_nil)) (nomark _)) (jv 4) j_non))))))))
abbrev s_l_signed : Stmt := top 15
theorem sc_l_signed : FnScope N_l_signed ["_law_feed_here", "_law_text"] (defScope s_l_signed) := ⟨rfl, rfl, rfl, by decide +kernel, rfl, by decide +kernel, by decide +kernel⟩
theorem ok_l_signed {f : Addr} {fd : FuncData} {sp : PSp} (F : Fun K "_law_signed" "_law_signed" s_l_signed f fd) (B : Blt K mg) {sp_l_draw : PSp} (F_l_draw : Fn P w K mg base 1 "_law_draw" sp_l_draw) (len : ∀ vs S Q, sp vs S Q → vs.length = 2)
    (rd : ∀ vs S Q, sp vs S Q → w_l_signed sp_l_draw { nx := fun _ S' => Q .non S', rt := Q } (startP N_l_signed vs) S) : FnOk P w K mg base CX0 2 f fd ["_law_feed_here", "_law_text"] (liftSp K sp) := by
  refine def_ok (k := 1) F sc_l_signed len ⟨w_l_signed sp_l_draw, fun cdv A outer s H E hr => ?_, rd⟩
  have nd := sc_l_signed.nd
  exact (jss_cons (js_set 2 nd j_str)
      (jss_cons (js_set 2 nd (j_op o_add (jv 2) j_str))
      (jss_cons (js_set 3 nd (j_call F_l_draw (hr.mono (by decide)) (ja_cons (jv 0) (ja_cons j_int ja_nil))))
      (jss_cons (js_set 4 nd (j_call F_l_draw (hr.mono (by decide)) (ja_cons (jv 0) (ja_cons (j_op o_add (j_blt b_len B.len (by rfl) (ja_cons (jv 1) ja_nil)) j_int) ja_nil))))
      (jss_cons (js_set 5 nd (j_idx (jv 2) (j_call F_l_draw (hr.mono (by decide)) (ja_cons (jv 0) (ja_cons j_int ja_nil)))))
      (jss_one (js_ret (j_op o_add (j_op o_add (j_slice (jv 1) jo_none (jo_some (jv 4))) (j_idx (j_lst (ja_cons (jv 5) (ja_cons j_str (ja_cons (jv 5) ja_nil)))) (jv 3))) (j_slice (jv 1) (jo_some (j_op o_add (jv 4) (j_bty b_int B.int (by rfl) (ja_cons (j_cmp o_gt (jv 3) j_int (nomark _)) ja_nil)))) jo_none)))))))))
abbrev s_l_spoilt : Stmt := top 16
theorem sc_l_spoilt : FnScope N_l_spoilt ["_law_feed_here", "_law_text"] (defScope s_l_spoilt) := ⟨rfl, rfl, rfl, by decide +kernel, rfl, by decide +kernel, by decide +kernel⟩
theorem ok_l_spoilt {f : Addr} {fd : FuncData} {sp : PSp} (F : Fun K "_law_spoilt" "_law_spoilt" s_l_spoilt f fd) (B : Blt K mg) {sp_l_draw : PSp} (F_l_draw : Fn P w K mg base 1 "_law_draw" sp_l_draw) {sp_l_signed : PSp} (F_l_signed : Fn P w K mg base 2 "_law_signed" sp_l_signed) (len : ∀ vs S Q, sp vs S Q → vs.length = 2)
    (rd : ∀ vs S Q, sp vs S Q → w_l_spoilt sp_l_draw sp_l_signed { nx := fun _ S' => Q .non S', rt := Q } (startP N_l_spoilt vs) S) : FnOk P w K mg base CX0 3 f fd ["_law_feed_here", "_law_text"] (liftSp K sp) := by
  refine def_ok (k := 2) F sc_l_spoilt len ⟨w_l_spoilt sp_l_draw sp_l_signed, fun cdv A outer s H E hr => ?_, rd⟩
  have nd := sc_l_spoilt.nd
  exact (jss_cons (js_set 2 nd (j_call F_l_draw (hr.mono (by decide)) (ja_cons (jv 0) (ja_cons j_int ja_nil))))
      (jss_cons (js_if (jt_cmp (o_lt hr.units0) (jv 2) j_int (nomark _)) (jss_one (js_ret (j_call F_l_signed (hr.mono (by decide)) (ja_cons (jv 0) (ja_cons (jv 1) ja_nil))))) jss_nil)
      (jss_cons (js_if (jt_cmp (o_eq hr.units) (jv 2) j_int (nomark _)) (jss_cons (js_set 4 nd (j_lst (ja_cons j_str (ja_cons j_str (ja_cons j_str (ja_cons j_str (ja_cons j_str (ja_cons j_str (ja_cons j_str (ja_cons j_str (ja_cons j_str (ja_cons j_str (ja_cons j_str (ja_cons j_str ja_nil))))))))))))))
      (jss_one (js_ret (j_idx (j_op o_add (jv 4) (j_lst (ja_cons j_str (ja_cons j_str (ja_cons j_str ja_nil))))) (j_call F_l_draw (hr.mono (by decide)) (ja_cons (jv 0) (ja_cons j_int ja_nil))))))) jss_nil)
      (jss_cons (js_set 3 nd (j_meth m_split PySem.F.plainAttrs_str PySem.F.slot_str_split PySem.F.type_str_split (jv 1) (ja_cons j_str ja_nil)))
      (jss_cons (js_par 5 6 nd (ja_cons (j_call F_l_draw (hr.mono (by decide)) (ja_cons (jv 0) (ja_cons (j_blt b_len B.len (by rfl) (ja_cons (jv 3) ja_nil)) ja_nil))) (ja_cons (j_call F_l_draw (hr.mono (by decide)) (ja_cons (jv 0) (ja_cons (j_blt b_len B.len (by rfl) (ja_cons (jv 3) ja_nil)) ja_nil))) ja_nil)))
      (jss_cons (js_if (jt_cmp (o_eq hr.units) (jv 2) j_int (nomark _)) (jss_one (js_set 3 nd (j_op o_add (j_slice (jv 3) jo_none (jo_some (jv 5))) (j_slice (jv 3) (jo_some (j_op o_add (jv 5) j_int)) jo_none)))) (jss_one (js_if (jt_cmp (o_eq hr.units) (jv 2) j_int (nomark _)) (jss_one (js_set 3 nd (j_op o_add (j_slice (jv 3) jo_none (jo_some (j_op o_add (jv 5) j_int))) (j_slice (jv 3) (jo_some (jv 5)) jo_none)))) (jss_one (js_asg (j_tup (ja_cons (j_idx (jv 3) (jv 6)) (ja_cons (j_idx (jv 3) (jv 5)) ja_nil))) (jg_tup (jgs_cons (jg_item (jv 3) (jv 5)) (jgs_cons (jg_item (jv 3) (jv 6)) jgs_nil))))))))
      (jss_one (js_ret (j_meth m_join PySem.F.plainAttrs_str PySem.F.slot_str_join PySem.F.type_str_join j_str (ja_cons (jv 3) ja_nil))))))))))
abbrev s_law : Stmt := top 17
theorem sc_law : FnScope N_law ["_law_script"] (defScope s_law) := ⟨rfl, rfl, rfl, by decide +kernel, rfl, by decide +kernel, by decide +kernel⟩
theorem ok_law {f : Addr} {fd : FuncData} {sp : PSp} (F : Fun K "law" "law" s_law f fd) (B : Blt K mg) {sp_l_feed : PSp} (F_l_feed : Fn P w K mg base 1 "_law_feed" sp_l_feed) {sp_l_draw : PSp} (F_l_draw : Fn P w K mg base 1 "_law_draw" sp_l_draw) {sp_l_set : PSp} (F_l_set : Fn P w K mg base 1 "_law_set" sp_l_set) {sp_set_text : PSp} (F_set_text : Fn P w K mg base 1 "set_text" sp_set_text) {sp_read_set : PSp} (F_read_set : Fn P w K mg base 4 "read_set" sp_read_set) {sp_l_spoilt : PSp} (F_l_spoilt : Fn P w K mg base 3 "_law_spoilt" sp_l_spoilt) {sp_l_read : PSp} (F_l_read : Fn P w K mg base 1 "_law_read" sp_l_read) (len : ∀ vs S Q, sp vs S Q → vs.length = 1)
    (rd : ∀ vs S Q, sp vs S Q → w_law sp_l_feed sp_l_draw sp_l_set sp_set_text sp_read_set sp_l_spoilt sp_l_read { nx := fun _ S' => Q .non S', rt := Q } (startP N_law vs) S) : FnOk P w K mg base CX0 5 f fd ["_law_script"] (liftSp K sp) := by
  refine def_ok (k := 4) F sc_law len ⟨w_law sp_l_feed sp_l_draw sp_l_set sp_set_text sp_read_set sp_l_spoilt sp_l_read, fun cdv A outer s H E hr => ?_, rd⟩
  have nd := sc_law.nd
  exact (jss_cons (js_set 1 nd (j_call F_l_feed (hr.mono (by decide)) (ja_cons (jv 0) ja_nil)))
      (jss_cons (js_for (ji_range1 B.range (ja_cons j_int ja_nil)) (jg_name 2 nd) (jss_cons (js_set 3 nd (j_call F_l_draw (hr.mono (by decide)) (ja_cons (jv 1) (ja_cons j_int ja_nil))))
      (jss_cons (js_set 4 nd (j_call F_l_set (hr.mono (by decide)) (ja_cons (j_call F_l_draw (hr.mono (by decide)) (ja_cons (jv 1) (ja_cons j_int ja_nil))) ja_nil)))
      (jss_cons (js_set 5 nd (j_if (jt_cmp (o_ne hr.units) (jv 4) (j_tup ja_nil) (nomark _)) (j_meth m_join PySem.F.plainAttrs_str PySem.F.slot_str_join PySem.F.type_str_join j_str (ja_cons (j_lc 10 nd (ji_seq (jv 4)) (by rfl) (fun _ _ _ _ _ => jts_nil) (fun _ _ _ _ _ => (j_bty b_str B.str (by rfl) (ja_cons (jv 10) ja_nil)))) ja_nil)) j_str))
      (jss_cons (js_if (jt_cmp (o_ne hr.units) (j_call F_set_text (hr.mono (by decide)) (ja_cons (jv 4) ja_nil)) (jv 5) (nomark _)) (jss_one (js_ret j_bl)) jss_nil)
      (jss_cons (js_for (ji_seq (j_tup (ja_cons j_int (ja_cons (j_call F_l_draw (hr.mono (by decide)) (ja_cons (jv 1) (ja_cons j_int ja_nil))) ja_nil)))) (jg_name 6 nd) (jss_cons (js_set 9 nd (j_if (jt_cmp (o_lt hr.units0) (j_blt (b_maxT rfl) B.max (by rfl) (ja_cons (j_op o_add (jv 4) (j_tup (ja_cons (j_neg j_int) ja_nil))) ja_nil)) (jv 6) (nomark _)) (jv 4) j_non))
      (jss_one (js_if (jt_cmp (o_ne hr.units) (j_blt (b_repr hr.gd hr.units) B.repr (by rfl) (ja_cons (j_call F_read_set (hr.mono (by decide)) (ja_cons (jv 6) (ja_cons (jv 5) ja_nil))) ja_nil)) (j_blt (b_repr hr.gd hr.units) B.repr (by rfl) (ja_cons (jv 9) ja_nil)) (nomark _)) (jss_one (js_ret j_bl)) jss_nil))))
      (jss_cons (js_set 6 nd (j_call F_l_draw (hr.mono (by decide)) (ja_cons (jv 1) (ja_cons j_int ja_nil))))
      (jss_cons (js_for (ji_range1 B.range (ja_cons (jv 3) ja_nil)) (jg_name 7 nd) (jss_one (js_set 5 nd (j_call F_l_spoilt (hr.mono (by decide)) (ja_cons (jv 1) (ja_cons (jv 5) ja_nil))))))
      (jss_one (js_for (ji_range1 B.range (ja_cons j_int ja_nil)) (jg_name 8 nd) (jss_one (js_if (jt_cmp (o_ne hr.units) (j_blt (b_repr hr.gd hr.units) B.repr (by rfl) (ja_cons (j_call F_read_set (hr.mono (by decide)) (ja_cons (jv 6) (ja_cons (jv 5) ja_nil))) ja_nil)) (j_blt (b_repr hr.gd hr.units) B.repr (by rfl) (ja_cons (j_call F_l_read (hr.mono (by decide)) (ja_cons (jv 6) (ja_cons (jv 5) ja_nil))) ja_nil)) (nomark _)) (jss_one (js_ret j_bl)) jss_nil))))))))))))
      (jss_one (js_ret j_bl))))
end
end k09

/-! Pure readings that all laws share. -/
namespace M
variable [Tabs]
open PySem L2
def w0_feed : WS :=
    (wRet (wDisp (((wC (.str (Str.ofString "cells"))), (wCall pList (wCons (wSl (wVar 0) wNoPart (wPart (wC (.int 63)))) wNil))) :: (((wC (.str (Str.ofString "at"))), (wC (.int 0))) :: (((wC (.str (Str.ofString "left"))), (wC (.int 0))) :: (((wC (.str (Str.ofString "turn"))), (wC (.int 0))) :: []))))))
def w0_draw : WS :=
    (wSeq (wAsg (wOp bAdd (wDGet (wVar 0) (wC (.str (Str.ofString "turn")))) (wC (.int 1))) (pName 2))
    (wSeq (wDPut (wVar 0) (wC (.str (Str.ofString "turn"))) (wVar 2))
    (wSeq (wIfS (wB (wOp bGt (wDGet (wVar 0) (wC (.str (Str.ofString "left")))) (wC (.int 0)))) (wSeq (wAsg (wOp bMod (wDGet (wVar 0) (wC (.str (Str.ofString "left")))) (wVar 1)) (pName 6))
    (wSeq (wDPut (wVar 0) (wC (.str (Str.ofString "left"))) (wOp bFdiv (wDGet (wVar 0) (wC (.str (Str.ofString "left")))) (wVar 1)))
    (wRet (wVar 6)))) wNext)
    (wSeq (wAsg (wDGet (wVar 0) (wC (.str (Str.ofString "at")))) (pName 3))
    (wSeq (wDPut (wVar 0) (wC (.str (Str.ofString "at"))) (wOp bAdd (wVar 3) (wC (.int 1))))
    (wSeq (wAsg (wIf (wB (wOp (bEq true) (wDGet (wVar 0) (wC (.str (Str.ofString "cells")))) (wLst wNil))) (wOp bIdx (wDGet (wVar 0) (wC (.str (Str.ofString "cells")))) (wOp bMod (wVar 3) (wCall pLen (wCons (wDGet (wVar 0) (wC (.str (Str.ofString "cells")))) wNil)))) (wC (.int 11))) (pName 4))
    (wSeq (wIfS (wAndT (wB (wOp bGe (wVar 4) (wOp bPow (wC (.int 10)) (wC (.int 18))))) (wB (wOp bLt (wVar 3) (wCall pLen (wCons (wDGet (wVar 0) (wC (.str (Str.ofString "cells")))) wNil))))) (wSeq (wDPut (wVar 0) (wC (.str (Str.ofString "left"))) (wOp bFdiv (wVar 4) (wVar 1)))
    (wRet (wOp bMod (wVar 4) (wVar 1)))) wNext)
    (wSeq (wAsg (wOp bMod (wOp bMul (wOp bAdd (wOp bMod (wVar 4) (wC (.int 1000003))) (wC (.int 40692))) (wOp bAdd (wOp bMul (wVar 2) (wVar 2)) (wC (.int 17)))) (wC (.int 2147483647))) (pName 5))
    (wRet (wOp bMod (wOp bFdiv (wOp bMod (wOp bPow (wVar 5) (wC (.int 5))) (wC (.int 2147483629))) (wC (.int 64))) (wVar 1)))))))))))

def N0_feed : List Str := ["_law_script"]
def N0_draw : List Str := ["_law_feed_here", "_law_many", "_law_turn", "_law_at", "_law_cell", "_law_mixed", "_law_found"]
abbrev kC : Key := .inr (Str.ofString "cells")
abbrev kA : Key := .inr (Str.ofString "at")
abbrev kL : Key := .inr (Str.ofString "left")
abbrev kT : Key := .inr (Str.ofString "turn")
def feedD (c : Nat) (a l t : Int) : List (Key × PV) := [(kC, .ref c), (kA, .int a), (kL, .int l), (kT, .int t)]
theorem nCA : ¬ (kC = kA) := by intro h; exact absurd (Sum.inr.inj h) (by decide +kernel)
theorem nCL : ¬ (kC = kL) := by intro h; exact absurd (Sum.inr.inj h) (by decide +kernel)
theorem nCT : ¬ (kC = kT) := by intro h; exact absurd (Sum.inr.inj h) (by decide +kernel)
theorem nAL : ¬ (kA = kL) := by intro h; exact absurd (Sum.inr.inj h) (by decide +kernel)
theorem nAT : ¬ (kA = kT) := by intro h; exact absurd (Sum.inr.inj h) (by decide +kernel)
theorem nLT : ¬ (kL = kT) := by intro h; exact absurd (Sum.inr.inj h) (by decide +kernel)
section
variable (c : Nat) (a l t : Int)
theorem val_C : valP (feedD c a l t) kC = some (.ref c) := by simp [valP, feedD]
theorem val_A : valP (feedD c a l t) kA = some (.int a) := by simp only [valP, feedD, List.find?, decide_eq_false nCA, decide_true]; rfl
theorem val_L : valP (feedD c a l t) kL = some (.int l) := by simp only [valP, feedD, List.find?, decide_eq_false nCL, decide_eq_false nAL, decide_true]; rfl
theorem val_T : valP (feedD c a l t) kT = some (.int t) := by simp only [valP, feedD, List.find?, decide_eq_false nCT, decide_eq_false nAT, decide_eq_false nLT, decide_true]; rfl
theorem put_A (x : Int) : putP (feedD c a l t) kA (.int x) = feedD c x l t := by
  simp only [putP, feedD, List.any_cons, List.any_nil, decide_eq_false nCA, decide_true, Bool.false_or, Bool.true_or, if_true, List.map_cons, List.map_nil, if_neg nCA, if_neg (Ne.symm nAL), if_neg (Ne.symm nAT)]
theorem put_L (x : Int) : putP (feedD c a l t) kL (.int x) = feedD c a x t := by
  simp only [putP, feedD, List.any_cons, List.any_nil, decide_eq_false nCL, decide_eq_false nAL, decide_true, Bool.false_or, Bool.true_or, if_true, List.map_cons, List.map_nil, if_neg nCL, if_neg nAL, if_neg (Ne.symm nLT)]
theorem put_T (x : Int) : putP (feedD c a l t) kT (.int x) = feedD c a l x := by
  simp only [putP, feedD, List.any_cons, List.any_nil, decide_eq_false nCT, decide_eq_false nAT, decide_eq_false nLT, decide_true, Bool.false_or, Bool.true_or, if_true, List.map_cons, List.map_nil, if_neg nCT, if_neg nAT, if_neg nLT]
theorem merge_feed : mergeP [] [(kC, .ref c), (kA, .int a), (kL, .int l), (kT, .int t)] = feedD c a l t := by
  simp only [mergeP, List.foldl, putP, List.any_nil, List.any_cons, List.nil_append, List.cons_append, decide_eq_false nCA, decide_eq_false nCL, decide_eq_false nCT, decide_eq_false nAL, decide_eq_false nAT, decide_eq_false nLT, Bool.or_self, Bool.false_eq_true, if_false, feedD]
end
/-- all but what lies at n is kept -/
structure Grow (n : Nat) (S S' : Sto) : Prop where
  keep : ∀ m o, m ≠ n → S[m]? = some o → S'[m]? = some o
  len : S.length ≤ S'.length
theorem Grow.refl (n : Nat) (S : Sto) : Grow n S S := ⟨fun _ _ _ h => h, Nat.le_refl _⟩
theorem Grow.trans {n : Nat} {S S1 S2 : Sto} (f : Grow n S S1) (g : Grow n S1 S2) : Grow n S S2 := ⟨fun m o h e => g.keep m o h (f.keep m o h e), Nat.le_trans f.len g.len⟩
theorem Grow.set {n : Nat} {S S1 : Sto} (f : Grow n S S1) (o : MO) : Grow n S (S1.set n o) := ⟨fun m u h e => by rw [List.getElem?_set_ne (Ne.symm h)]; exact f.keep m u h e, by rw [List.length_set]; exact f.len⟩
theorem Grow.app {n : Nat} {S S1 : Sto} (f : Grow n S S1) (X : Sto) : Grow n S (S1 ++ X) := ⟨fun m u h e => by
  have := f.keep m u h e
  rw [List.getElem?_append_left (List.getElem?_eq_some_iff.mp this).1]; exact this, by rw [List.length_append]; have := f.len; omega⟩
/-- the feed lies at n, at most T draws are done -/
structure Feed (S : Sto) (n T : Nat) : Prop where
  ex : ∃ (c : Nat) (a l t : Int) (ns : List Int), S[n]? = some (.dct (feedD c a l t)) ∧ S[c]? = some (.lst (ns.map PV.int)) ∧ ns.length ≤ 63 ∧ 0 ≤ a ∧ 0 ≤ l ∧ 0 ≤ t ∧ t ≤ T ∧ c < n
theorem Feed.app {S : Sto} {n T : Nat} (f : Feed S n T) (X : Sto) : Feed (S ++ X) n T := by
  obtain ⟨c, a, l, t, ns, h1, h2, r⟩ := f.ex
  exact ⟨c, a, l, t, ns, by rw [List.getElem?_append_left (List.getElem?_eq_some_iff.mp h1).1]; exact h1, by rw [List.getElem?_append_left (List.getElem?_eq_some_iff.mp h2).1]; exact h2, r⟩
theorem Feed.mono {S : Sto} {n T T' : Nat} (f : Feed S n T) (h : T ≤ T') : Feed S n T' := by
  obtain ⟨c, a, l, t, ns, h1, h2, h3, h4, h5, h6, h7, h8⟩ := f.ex
  exact ⟨c, a, l, t, ns, h1, h2, h3, h4, h5, h6, by omega, h8⟩
theorem Feed.lt {S : Sto} {n T : Nat} (f : Feed S n T) : n < S.length := by
  obtain ⟨c, a, l, t, ns, h1, _⟩ := f.ex
  exact (List.getElem?_eq_some_iff.mp h1).1
/-- a draw: any number below m -/
def sp0_draw : PSp := fun vs S Q => ∃ (n T : Nat) (m : Int), vs = [.ref n, .int m] ∧ 0 < m ∧ m < 1073741824 ∧ T < 1099511627776 ∧ Feed S n T ∧ ∀ (r : Int) (S' : Sto), 0 ≤ r → r < m → Grow n S S' → Feed S' n (T + 1) → Q (.int r) S'
def sp0_feed : PSp := fun vs S Q => ∃ (p : PV) (ns : List Int), vs = [p] ∧ ns.length ≤ 63 ∧ ((∃ n, p = .ref n ∧ S[n]? = some (.ro (ns.map PV.int))) ∨ p = .kls (ns.map PV.int)) ∧ ∀ (n : Nat) (S' : Sto), n < S'.length → (∀ (m : Nat) (o : MO), S[m]? = some o → S'[m]? = some o) → S.length ≤ n → Feed S' n 0 → Q (.ref n) S'
theorem pdts_ints (S : Sto) : ∀ ns : List Int, PDts S (ns.map PV.int) (ns.map PyData.int)
  | [] => .nil
  | n :: ns => .cons (.int n) (pdts_ints S ns)
theorem len0_draw : ∀ vs S Q, sp0_draw vs S Q → vs.length = 2 := by
  rintro _ S Q ⟨n, T, m, rfl, _⟩; rfl
theorem len0_feed : ∀ vs S Q, sp0_feed vs S Q → vs.length = 1 := by
  rintro _ S Q ⟨p, ns, rfl, _⟩; rfl
theorem len_ok {n : Nat} (h : n ≤ 1000) : n ≤ sizeLine := Nat.le_trans h (by decide)
theorem len_ok' {n : Nat} (h : n ≤ 1000) : n < sizeLine := Nat.lt_of_le_of_lt h (by decide)
theorem feed_len (c : Nat) (a l t : Int) : (feedD c a l t).length < sizeLine := len_ok' (by show 4 ≤ 1000; decide)
theorem canLay_ints : ∀ ns : List Int, PyData.canLayAll0 (ns.map PyData.int) = true
  | [] => rfl
  | n :: ns => by simp only [List.map_cons, PyData.canLayAll0, PyData.canLay0, canLay_ints ns, Bool.and_self]
theorem depth_ints : ∀ ns : List Int, PyData.depthAll (ns.map PyData.int) = 0
  | [] => rfl
  | n :: ns => by simp only [List.map_cons, PyData.depthAll, PyData.depth, depth_ints ns, Nat.max_self]
theorem shaped_ints (ns : List Int) : SeqAt.shaped (.list (ns.map PyData.int)) = true := by
  simp only [SeqAt.shaped, PyData.canLay0, canLay_ints, PyData.depth, depth_ints, Bool.true_and]; decide
theorem atI_mod {xs : List PV} {i : Int} {p : PV} (h0 : 0 ≤ i) (h : xs[i.toNat]? = some p) : atI xs i = some p := by
  have hl := (List.getElem?_eq_some_iff.mp h).1
  unfold atI ixN
  rw [if_pos h0, if_pos (by omega)]
  exact h
theorem rd0_draw : ∀ vs S Q, sp0_draw vs S Q → w0_draw { nx := fun _ S' => Q .non S', rt := Q } (startP N0_draw vs) S := by
  rintro _ S Q ⟨n, T, m, rfl, hm, hm2, hT, F, k⟩
  obtain ⟨c, a, l, t, ns, h1, h2, h3, ha, hl, ht, htT, hcn⟩ := F.ex
  have hn := F.lt
  -- turn
  refine ⟨_, rfl, _, ⟨n, _, kT, rfl, h1, rfl, val_T c a l t⟩, ?_⟩
  refine ⟨_, rfl, _, rfl, n, _, kT, rfl, h1, rfl, feed_len _ _ _ _, ?_⟩
  rw [put_T]
  generalize hS1 : S.set n (.dct (feedD c a l (t + 1))) = S1
  have g1 : S1[n]? = some (.dct (feedD c a l (t + 1))) := by rw [← hS1, List.getElem?_set_self hn]
  have g2 : S1[c]? = some (.lst (ns.map PV.int)) := by rw [← hS1, List.getElem?_set_ne (Nat.ne_of_gt hcn)]; exact h2
  have G1 : Grow n S S1 := by rw [← hS1]; exact (Grow.refl n S).set _
  have hn1 : n < S1.length := (List.getElem?_eq_some_iff.mp g1).1
  -- left > 0
  refine ⟨_, rfl, _, ⟨n, _, kL, rfl, g1, rfl, val_L c a l (t + 1)⟩, ?_⟩
  refine ⟨decide (0 < l), rfl, ?_⟩
  by_cases hl0 : 0 < l
  · rw [decide_eq_true hl0]
    refine iteT ?_
    refine ⟨_, rfl, _, ⟨n, _, kL, rfl, g1, rfl, val_L c a l (t + 1)⟩, _, rfl, hm, ?_⟩
    refine ⟨_, rfl, _, ⟨n, _, kL, rfl, g1, rfl, val_L c a l (t + 1)⟩, _, rfl, ⟨hm, hm2⟩, ?_⟩
    refine ⟨_, rfl, n, _, kL, rfl, g1, rfl, feed_len _ _ _ _, ?_⟩
    rw [put_L]
    refine ⟨_, rfl, k _ _ (Int.emod_nonneg _ (by omega)) (Int.emod_lt_of_pos _ hm) (G1.set _) ?_⟩
    refine ⟨c, a, l / m, t + 1, ns, by rw [List.getElem?_set_self hn1], by rw [List.getElem?_set_ne (Nat.ne_of_gt hcn)]; exact g2, h3, ha, Int.ediv_nonneg hl (by omega), by omega, by omega, hcn⟩
  · rw [decide_eq_false hl0]
    refine iteF ?_
    -- at
    refine ⟨_, rfl, _, ⟨n, _, kA, rfl, g1, rfl, val_A c a l (t + 1)⟩, ?_⟩
    refine ⟨_, rfl, _, rfl, n, _, kA, rfl, g1, rfl, feed_len _ _ _ _, ?_⟩
    rw [put_A]
    generalize hS2 : S1.set n (.dct (feedD c (a + 1) l (t + 1))) = S2
    have e1 : S2[n]? = some (.dct (feedD c (a + 1) l (t + 1))) := by rw [← hS2, List.getElem?_set_self hn1]
    have e2 : S2[c]? = some (.lst (ns.map PV.int)) := by rw [← hS2, List.getElem?_set_ne (Nat.ne_of_gt hcn)]; exact g2
    have G2 : Grow n S S2 := by rw [← hS2]; exact G1.set _
    have hn2 : n < S2.length := (List.getElem?_eq_some_iff.mp e1).1
    -- cells != []
    refine ⟨_, rfl, _, ⟨n, _, kC, rfl, e1, rfl, val_C c (a + 1) l (t + 1)⟩, len_ok (by decide), ?_⟩
    generalize hS3 : S2 ++ [MO.lst []] = S3
    have f1 : S3[n]? = some (.dct (feedD c (a + 1) l (t + 1))) := by rw [← hS3, List.getElem?_append_left hn2]; exact e1
    have f2 : S3[c]? = some (.lst (ns.map PV.int)) := by rw [← hS3, List.getElem?_append_left (List.getElem?_eq_some_iff.mp e2).1]; exact e2
    have f3 : S3[S2.length]? = some (.lst []) := by rw [← hS3, List.getElem?_append_right (Nat.le_refl _)]; simp
    have G3 : Grow n S S3 := by rw [← hS3]; exact G2.app _
    have F3 : Feed S3 n (T + 1) := ⟨c, a + 1, l, t + 1, ns, f1, f2, h3, by omega, hl, by omega, by omega, hcn⟩
    refine ⟨.list (ns.map PyData.int), .list [], .lst (.inl f2) (pdts_ints _ ns), .lst (.inl f3) .nil, shaped_ints ns, by decide, _, rfl, ?_⟩
    -- the cell, and the rest of it
    have rest : ∀ cell : Int, (cell = 11 ∨ True) →
        (fun fr S => wSeq (wIfS (wAndT (wB (wOp bGe (wVar 4) (wOp bPow (wC (.int 10)) (wC (.int 18))))) (wB (wOp bLt (wVar 3) (wCall pLen (wCons (wDGet (wVar 0) (wC (.str (Str.ofString "cells")))) wNil))))) (wSeq (wDPut (wVar 0) (wC (.str (Str.ofString "left"))) (wOp bFdiv (wVar 4) (wVar 1)))
    (wRet (wOp bMod (wVar 4) (wVar 1)))) wNext)
    (wSeq (wAsg (wOp bMod (wOp bMul (wOp bAdd (wOp bMod (wVar 4) (wC (.int 1000003))) (wC (.int 40692))) (wOp bAdd (wOp bMul (wVar 2) (wVar 2)) (wC (.int 17)))) (wC (.int 2147483647))) (pName 5))
    (wRet (wOp bMod (wOp bFdiv (wOp bMod (wOp bPow (wVar 5) (wC (.int 5))) (wC (.int 2147483629))) (wC (.int 64))) (wVar 1)))) { nx := fun _ S' => Q .non S', rt := Q } fr S)
        [some (.ref n), some (.int m), some (.int (t + 1)), some (.int a), some (.int cell), none, none] S3 := by
      intro cell _
      have mix : (fun fr S => (wSeq (wAsg (wOp bMod (wOp bMul (wOp bAdd (wOp bMod (wVar 4) (wC (.int 1000003))) (wC (.int 40692))) (wOp bAdd (wOp bMul (wVar 2) (wVar 2)) (wC (.int 17)))) (wC (.int 2147483647))) (pName 5))
    (wRet (wOp bMod (wOp bFdiv (wOp bMod (wOp bPow (wVar 5) (wC (.int 5))) (wC (.int 2147483629))) (wC (.int 64))) (wVar 1)))) { nx := fun _ S' => Q .non S', rt := Q } fr S) [some (.ref n), some (.int m), some (.int (t + 1)), some (.int a), some (.int cell), none, none] S3 := by
        have c1 : 0 ≤ cell % 1000003 := Int.emod_nonneg _ (by decide)
        have c2 : cell % 1000003 < 1000003 := Int.emod_lt_of_pos _ (by decide)
        refine ⟨_, rfl, by decide, _, rfl, _, rfl, .inl ⟨by omega, by omega⟩, .inl ⟨by omega, by omega⟩, by decide, ?_⟩
        generalize hx : (cell % 1000003 + 40692) * ((t + 1) * (t + 1) + 17) % 2147483647 = x
        have x1 : 0 ≤ x := by rw [← hx]; exact Int.emod_nonneg _ (by decide)
        have x2 : x < 2147483647 := by rw [← hx]; exact Int.emod_lt_of_pos _ (by decide)
        refine ⟨_, rfl, ⟨by decide, by decide, by omega⟩, by decide, ⟨by decide, by decide⟩, _, rfl, hm, ?_⟩
        exact k _ _ (Int.emod_nonneg _ (by omega)) (Int.emod_lt_of_pos _ hm) G3 F3
      refine ⟨_, rfl, ⟨by decide, by decide, by decide⟩, _, rfl, ?_⟩
      by_cases hc : 10 ^ (18 : Int).toNat ≤ cell
      · rw [decide_eq_true hc]
        refine iteT ?_
        refine ⟨_, rfl, _, rfl, _, ⟨n, _, kC, rfl, f1, rfl, val_C c (a + 1) l (t + 1)⟩, .inl ⟨_, .inl f2, _, rfl, ?_⟩⟩
        by_cases ha2 : a < ((ns.map PV.int).length : Int)
        · rw [decide_eq_true ha2]
          refine iteT ?_
          refine ⟨_, rfl, _, rfl, ⟨hm, hm2⟩, _, rfl, n, _, kL, rfl, f1, rfl, feed_len _ _ _ _, ?_⟩
          rw [put_L]
          have hn3 : n < S3.length := (List.getElem?_eq_some_iff.mp f1).1
          refine ⟨_, rfl, _, rfl, hm, k _ _ (Int.emod_nonneg _ (by omega)) (Int.emod_lt_of_pos _ hm) (G3.set _) ?_⟩
          have hc0 : 0 ≤ cell := Int.le_trans (by decide) hc
          exact ⟨c, a + 1, cell / m, t + 1, ns, by rw [List.getElem?_set_self hn3], by rw [List.getElem?_set_ne (Nat.ne_of_gt hcn)]; exact f2, h3, by omega, Int.ediv_nonneg hc0 (by omega), by omega, by omega, hcn⟩
        · rw [decide_eq_false ha2]
          exact iteF mix
      · rw [decide_eq_false hc]
        exact iteF mix
    cases ns with
    | nil =>
      refine iteF ?_
      exact rest 11 (.inl rfl)
    | cons z zs =>
      refine iteT ?_
      have hlen : 0 < ((z :: zs).map PV.int).length := by simp
      refine ⟨_, rfl, _, ⟨n, _, kC, rfl, f1, rfl, val_C c (a + 1) l (t + 1)⟩, _, rfl, _, rfl, _, ⟨n, _, kC, rfl, f1, rfl, val_C c (a + 1) l (t + 1)⟩, .inl ⟨_, .inl f2, by omega, ?_⟩⟩
      have i0 : 0 ≤ a % (((z :: zs).map PV.int).length : Int) := Int.emod_nonneg _ (by omega)
      have i1 : a % (((z :: zs).map PV.int).length : Int) < (((z :: zs).map PV.int).length : Int) := Int.emod_lt_of_pos _ (by omega)
      have i2 : (a % (((z :: zs).map PV.int).length : Int)).toNat < ((z :: zs).map PV.int).length := by omega
      have i3 : (a % (((z :: zs).map PV.int).length : Int)).toNat < (z :: zs).length := by simpa using i2
      refine ⟨_, .int (z :: zs)[(a % (((z :: zs).map PV.int).length : Int)).toNat], .inl f2, atI_mod i0 ?_, ?_⟩
      · rw [List.getElem?_map, List.getElem?_eq_getElem i3]
        rfl
      · exact rest _ (.inr trivial)
theorem cut63 (ns : List Int) (h : ns.length ≤ 63) : cutP (ns.map PV.int) none (some 63) = ns.map PV.int := by
  unfold cutP
  have e : HT.sIx (ns.map PV.int).length 0 none = 0 := rfl
  have e2 : HT.sIx (ns.map PV.int).length (ns.map PV.int).length (some 63) = ns.length := by
    rw [List.length_map]
    have := HT.sIx_nat ns.length ns.length 63
    rw [show ((63 : Nat) : Int) = 63 from rfl] at this
    rw [this]
    omega
  rw [e, e2, List.drop_zero, Nat.sub_zero, List.take_of_length_le (by rw [List.length_map]; exact Nat.le_refl _)]
theorem rd0_feed : ∀ vs S Q, sp0_feed vs S Q → w0_feed { nx := fun _ S' => Q .non S', rt := Q } (startP N0_feed vs) S := by
  rintro _ S Q ⟨p, ns, rfl, hl, hp, k⟩
  have fin : ∀ S1 : Sto, (∀ (m : Nat) (o : MO), S[m]? = some o → S1[m]? = some o) → S.length ≤ S1.length → Feed (S1 ++ [MO.lst (ns.map PV.int)] ++ [MO.dct (mergeP [] [(kC, .ref S1.length), (kA, .int 0), (kL, .int 0), (kT, .int 0)])]) (S1 ++ [MO.lst (ns.map PV.int)]).length 0 := by
    intro S1 _ _
    rw [merge_feed]
    refine ⟨S1.length, 0, 0, 0, ns, by rw [List.getElem?_append_right (Nat.le_refl _)]; simp, ?_, hl, by decide, by decide, by decide, by decide, by simp⟩
    rw [List.append_assoc, List.getElem?_append_right (Nat.le_refl _)]
    simp
  have ext : ∀ (S1 X : Sto), (∀ (m : Nat) (o : MO), S[m]? = some o → S1[m]? = some o) → ∀ (m : Nat) (o : MO), S[m]? = some o → (S1 ++ X)[m]? = some o := fun S1 X h m o e => by
    rw [List.getElem?_append_left (List.getElem?_eq_some_iff.mp (h m o e)).1]; exact h m o e
  have e63 := cut63 ns hl
  have e0 : ∀ (m : Nat) (o : MO), S[m]? = some o → (S ++ [MO.lst (ns.map PV.int)])[m]? = some o := ext S _ fun _ _ h => h
  have l0 : S.length ≤ (S ++ [MO.lst (ns.map PV.int)]).length := by simp
  have sl : (S ++ [MO.lst (ns.map PV.int)])[S.length]? = some (MO.lst (ns.map PV.int)) := by rw [List.getElem?_append_right (Nat.le_refl _)]; simp
  have done : Q (.ref ((S ++ [MO.lst (ns.map PV.int)]) ++ [MO.lst (ns.map PV.int)]).length) ((S ++ [MO.lst (ns.map PV.int)]) ++ [MO.lst (ns.map PV.int)] ++ [MO.dct (mergeP [] [(kC, .ref (S ++ [MO.lst (ns.map PV.int)]).length), (kA, .int 0), (kL, .int 0), (kT, .int 0)])]) :=
    k _ _ (by simp) (ext _ _ (ext _ _ e0)) (by simp [Nat.le_add_right, Nat.add_assoc]) (fin _ e0 l0)
  rcases hp with ⟨n, rfl, h⟩ | rfl
  · refine ⟨_, rfl, _, rfl, ns.map PV.int, .inr h, ?_⟩
    rw [e63]
    refine ⟨_, .inl sl, [(kC, .ref (S ++ [MO.lst (ns.map PV.int)]).length), (kA, .int 0), (kL, .int 0), (kT, .int 0)], rfl, (by show 4 ≤ 15; decide), done⟩
  · refine ⟨_, rfl, _, rfl, ?_⟩
    simp only [bSl, e63]
    exact ⟨_, .inl sl, [(kC, .ref (S ++ [MO.lst (ns.map PV.int)]).length), (kA, .int 0), (kL, .int 0), (kT, .int 0)], rfl, (by show 4 ≤ 15; decide), done⟩
end M

/-! Data that is written out: how long its text is. -/
namespace M
variable [Tabs]
open PySem L2

mutual
def up : PyData → Nat
  | .none => 4
  | .bool _ => 5
  | .int i => (toString i : Str).length
  | .str x => (reprText x).length
  | .list ds => upAll ds + 3
  | .tuple ds => upAll ds + 3
  | .dict _ => 0
def upAll : List PyData → Nat
  | [] => 0
  | d :: ds => up d + 2 + upAll ds
end
theorem upAll_nil : upAll [] = 0 := by simp only [upAll]
theorem upAll_cons (d : PyData) (ds : List PyData) : upAll (d :: ds) = up d + 2 + upAll ds := by simp only [upAll]
theorem up_tuple (ds : List PyData) : up (.tuple ds) = upAll ds + 3 := by simp only [up]
theorem up_list (ds : List PyData) : up (.list ds) = upAll ds + 3 := by simp only [up]
theorem upAll_append : ∀ xs ys : List PyData, upAll (xs ++ ys) = upAll xs + upAll ys
  | [], ys => by rw [List.nil_append, upAll_nil, Nat.zero_add]
  | x :: xs, ys => by rw [List.cons_append, upAll_cons, upAll_cons, upAll_append xs ys]; omega
theorem upAll_reverse : ∀ xs : List PyData, upAll xs.reverse = upAll xs
  | [] => rfl
  | x :: xs => by rw [List.reverse_cons, upAll_append, upAll_reverse xs, upAll_cons, upAll_cons, upAll_nil]; omega
theorem textFrom_up : ∀ (ts : List Str) (k : Nat) (acc : Str), (textFrom k acc ts).length ≤ acc.length + piled ts
  | [], k, acc => by show acc.length ≤ _; rw [piled_nil]; omega
  | t :: ts, k, acc => by
    have ih := textFrom_up ts (k + 1) (acc ++ (if k > 0 then ", " else "" : String) ++ t)
    have e : (acc ++ (if k > 0 then ", " else "" : String) ++ t).length = acc.length + (if k > 0 then 2 else 0) + t.length := by
      rw [strLen_append, strLen_append]
      split <;> rfl
    rw [e] at ih
    show (textFrom (k + 1) _ ts).length ≤ _
    rw [piled_cons]
    have e2 : (if k > 0 then 2 else 0) ≤ 2 := by split <;> omega
    omega
theorem listText_up (ts : List Str) : (listText ts).length ≤ piled ts + 2 := by
  unfold listText
  rw [strLen_append]
  have h := textFrom_up ts 0 "["
  have e1 : ((("[" : String) : Str)).length = 1 := rfl
  have e2 : ((("]" : String) : Str)).length = 1 := rfl
  omega
theorem tupleText_up (ts : List Str) : (tupleText ts).length ≤ piled ts + 3 := by
  unfold tupleText
  rw [strLen_append, strLen_append]
  have e1 : ((("(" : String) : Str)).length = 1 := rfl
  have e3 : (((if ts.length == 1 then ",)" else ")" : String) : Str)).length ≤ 2 := by split <;> decide
  by_cases h : ts = []
  · subst h
    have : (Str.join ", " []).length = 0 := rfl
    omega
  · have := join_length_add ts h
    omega
mutual
theorem shown_up : ∀ d : PyData, d.hasDict = false → d.shown.length ≤ up d
  | .none, _ => by simp only [PyData.shown, up]; decide
  | .bool b, _ => by simp only [PyData.shown, up]; cases b <;> decide
  | .int i, _ => by simp only [PyData.shown, up]; exact Nat.le_refl _
  | .str x, _ => by simp only [PyData.shown, up]; exact Nat.le_refl _
  | .list ds, h => by
    simp only [PyData.hasDict] at h
    simp only [PyData.shown, up]
    have h1 := listText_up (PyData.shownAll ds)
    have h2 := shownAll_up ds h
    omega
  | .tuple ds, h => by
    simp only [PyData.hasDict] at h
    simp only [PyData.shown, up]
    have h1 := tupleText_up (PyData.shownAll ds)
    have h2 := shownAll_up ds h
    omega
  | .dict _, h => by simp only [PyData.hasDict] at h; cases h
theorem shownAll_up : ∀ ds : List PyData, PyData.hasDictAll ds = false → piled (PyData.shownAll ds) ≤ upAll ds
  | [], _ => by simp only [PyData.shownAll, piled_nil]; omega
  | d :: ds, h => by
    simp only [PyData.hasDictAll, Bool.or_eq_false_iff] at h
    simp only [PyData.shownAll, piled_cons, upAll_cons]
    have h1 := shown_up d h.1
    have h2 := shownAll_up ds h.2
    omega
end
mutual
theorem PDt.noDict {S : Sto} : ∀ {p : PV} {d : PyData}, PDt S p d → d.hasDict = false
  | _, _, .non => by simp only [PyData.hasDict]
  | _, _, .bl _ => by simp only [PyData.hasDict]
  | _, _, .int _ => by simp only [PyData.hasDict]
  | _, _, .str _ => by simp only [PyData.hasDict]
  | _, _, .lst _ h => by simp only [PyData.hasDict]; exact PDts.noDict h
  | _, _, .tup h => by simp only [PyData.hasDict]; exact PDts.noDict h
theorem PDts.noDict {S : Sto} : ∀ {ps : List PV} {ds : List PyData}, PDts S ps ds → PyData.hasDictAll ds = false
  | _, _, .nil => by simp only [PyData.hasDictAll]
  | _, _, .cons h t => by simp only [PyData.hasDictAll, PDt.noDict h, PDts.noDict t, Bool.or_self]
end
/-! ### written data in a store that grows -/
theorem SL.grow {n : Nat} {S S' : Sto} {m : Nat} {xs : List PV} (g : Grow n S S') (hn : ∀ xs, ¬ SL S n xs) (h : SL S m xs) : SL S' m xs := by
  have hm : m ≠ n := by rintro rfl; exact hn xs h
  rcases h with h | h
  · exact .inl (g.keep m _ hm h)
  · exact .inr (g.keep m _ hm h)
mutual
theorem PDt.mv {S S' : Sto} (f : ∀ (m : Nat) (xs : List PV), SL S m xs → SL S' m xs) : ∀ {p : PV} {d : PyData}, PDt S p d → PDt S' p d
  | _, _, .non => .non
  | _, _, .bl b => .bl b
  | _, _, .int i => .int i
  | _, _, .str x => .str x
  | _, _, .lst h t => .lst (f _ _ h) (PDts.mv f t)
  | _, _, .tup t => .tup (PDts.mv f t)
theorem PDts.mv {S S' : Sto} (f : ∀ (m : Nat) (xs : List PV), SL S m xs → SL S' m xs) : ∀ {ps : List PV} {ds : List PyData}, PDts S ps ds → PDts S' ps ds
  | _, _, .nil => .nil
  | _, _, .cons h t => .cons (PDt.mv f h) (PDts.mv f t)
end
theorem Feed.nosl {S : Sto} {n T : Nat} (f : Feed S n T) : ∀ xs, ¬ SL S n xs := by
  obtain ⟨c, a, l, t, ns, h1, _⟩ := f.ex
  rintro xs (h | h) <;> (rw [h1] at h; cases h)
theorem SL.app {S : Sto} (X : Sto) {m : Nat} {xs : List PV} (h : SL S m xs) : SL (S ++ X) m xs := by
  rcases h with h | h
  · exact .inl (by rw [List.getElem?_append_left (List.getElem?_eq_some_iff.mp h).1]; exact h)
  · exact .inr (by rw [List.getElem?_append_left (List.getElem?_eq_some_iff.mp h).1]; exact h)
theorem PDt.app {S : Sto} (X : Sto) {p : PV} {d : PyData} (h : PDt S p d) : PDt (S ++ X) p d := h.mv fun _ _ => SL.app X
theorem PDt.grow {S S' : Sto} {n T : Nat} (F : Feed S n T) (g : Grow n S S') {p : PV} {d : PyData} (h : PDt S p d) : PDt S' p d := h.mv fun _ _ z => z.grow g F.nosl
section
variable {S : Sto}
theorem PDts.append : ∀ {ps qs : List PV} {ds es : List PyData}, PDts S ps ds → PDts S qs es → PDts S (ps ++ qs) (ds ++ es)
  | _, _, _, _, .nil, s => s
  | _, _, _, _, .cons r t, s => .cons r (PDts.append t s)
theorem PDts.take : ∀ {ps : List PV} {ds : List PyData} (n : Nat), PDts S ps ds → PDts S (ps.take n) (ds.take n)
  | _, _, 0, _ => .nil
  | _, _, _ + 1, .nil => .nil
  | _, _, n + 1, .cons r t => .cons r (PDts.take n t)
theorem PDts.drop : ∀ {ps : List PV} {ds : List PyData} (n : Nat), PDts S ps ds → PDts S (ps.drop n) (ds.drop n)
  | _, _, 0, r => r
  | _, _, _ + 1, .nil => .nil
  | _, _, n + 1, .cons _ t => PDts.drop n t
theorem PDts.rev : ∀ {ps : List PV} {ds : List PyData}, PDts S ps ds → PDts S ps.reverse ds.reverse
  | _, _, .nil => .nil
  | _, _, .cons r t => by rw [List.reverse_cons, List.reverse_cons]; exact (PDts.rev t).append (.cons r .nil)
theorem PDts.length : ∀ {ps : List PV} {ds : List PyData}, PDts S ps ds → ps.length = ds.length
  | _, _, .nil => rfl
  | _, _, .cons _ t => by rw [List.length_cons, List.length_cons, PDts.length t]
theorem PDts.mem : ∀ {ps : List PV} {ds : List PyData}, PDts S ps ds → ∀ p ∈ ps, ∃ d, PDt S p d
  | _, _, .nil, p, h => by cases h
  | _, _, .cons r t, p, h => by
    rcases List.mem_cons.mp h with rfl | h
    · exact ⟨_, r⟩
    · exact PDts.mem t p h
theorem PDts.get : ∀ {ps : List PV} {ds : List PyData} {i : Nat} {p : PV}, PDts S ps ds → ps[i]? = some p → ∃ d, ds[i]? = some d ∧ PDt S p d
  | _, _, _, _, .nil, e => by simp at e
  | _, _, 0, _, .cons r _, e => by simp at e; subst e; exact ⟨_, rfl, r⟩
  | _, _, i + 1, p, .cons _ t, e => by
    obtain ⟨v, h1, h2⟩ := PDts.get (i := i) (p := p) t (by simpa using e)
    exact ⟨v, by simpa using h1, h2⟩
end
/-- small data: it can be shown, it isn't deep, its text isn't long -/
structure SmD (B D : Nat) (d : PyData) : Prop where
  sh : d.showable = true
  dp : d.depth ≤ D
  up : up d ≤ B
structure SmDs (B D : Nat) (ds : List PyData) : Prop where
  sh : PyData.showableAll ds = true
  dp : PyData.depthAll ds ≤ D
  up : upAll ds ≤ B
theorem SmDs.nil : SmDs 0 0 [] := ⟨rfl, Nat.le_refl _, Nat.le_refl _⟩
theorem SmDs.cons {B B' D : Nat} {d : PyData} {ds : List PyData} (h : SmD B D d) (t : SmDs B' D ds) : SmDs (B + 2 + B') D (d :: ds) :=
  ⟨by simp only [PyData.showableAll, h.sh, t.sh, Bool.and_self], by simp only [PyData.depthAll]; have := h.dp; have := t.dp; omega, by rw [upAll_cons]; have := h.up; have := t.up; omega⟩
theorem SmD.mono {B B' D D' : Nat} {d : PyData} (h : SmD B D d) (hB : B ≤ B') (hD : D ≤ D') : SmD B' D' d := ⟨h.sh, Nat.le_trans h.dp hD, Nat.le_trans h.up hB⟩
theorem SmDs.mono {B B' D D' : Nat} {ds : List PyData} (h : SmDs B D ds) (hB : B ≤ B') (hD : D ≤ D') : SmDs B' D' ds := ⟨h.sh, Nat.le_trans h.dp hD, Nat.le_trans h.up hB⟩
theorem showableAll_append : ∀ xs ys : List PyData, PyData.showableAll (xs ++ ys) = (PyData.showableAll xs && PyData.showableAll ys)
  | [], ys => by simp only [List.nil_append, PyData.showableAll, Bool.true_and]
  | x :: xs, ys => by simp only [List.cons_append, PyData.showableAll, showableAll_append xs ys, Bool.and_assoc]
theorem depthAll_append : ∀ xs ys : List PyData, PyData.depthAll (xs ++ ys) = max (PyData.depthAll xs) (PyData.depthAll ys)
  | [], ys => by simp only [List.nil_append, PyData.depthAll]; omega
  | x :: xs, ys => by simp only [List.cons_append, PyData.depthAll, depthAll_append xs ys]; omega
theorem SmDs.append {B B' D : Nat} {xs ys : List PyData} (h : SmDs B D xs) (t : SmDs B' D ys) : SmDs (B + B') D (xs ++ ys) :=
  ⟨by rw [showableAll_append, h.sh, t.sh]; rfl, by rw [depthAll_append]; have := h.dp; have := t.dp; omega, by rw [upAll_append]; have := h.up; have := t.up; omega⟩
theorem SmDs.of_append {B D : Nat} {xs ys : List PyData} (h : SmDs B D (xs ++ ys)) : SmDs (upAll xs) D xs ∧ SmDs (upAll ys) D ys := by
  have h1 := h.sh
  rw [showableAll_append, Bool.and_eq_true] at h1
  have h2 := h.dp
  rw [depthAll_append] at h2
  exact ⟨⟨h1.1, by omega, Nat.le_refl _⟩, ⟨h1.2, by omega, Nat.le_refl _⟩⟩
theorem SmDs.take {B D : Nat} {ds : List PyData} (h : SmDs B D ds) (i : Nat) : SmDs (upAll (ds.take i)) D (ds.take i) := (SmDs.of_append (xs := ds.take i) (ys := ds.drop i) (by rw [List.take_append_drop]; exact h)).1
theorem SmDs.drop {B D : Nat} {ds : List PyData} (h : SmDs B D ds) (i : Nat) : SmDs (upAll (ds.drop i)) D (ds.drop i) := (SmDs.of_append (xs := ds.take i) (ys := ds.drop i) (by rw [List.take_append_drop]; exact h)).2
theorem SmDs.rev {B D : Nat} : ∀ {ds : List PyData}, SmDs B D ds → SmDs B D ds.reverse := fun {ds} h => by
  have all : ∀ l : List PyData, PyData.showableAll l.reverse = PyData.showableAll l ∧ PyData.depthAll l.reverse = PyData.depthAll l := by
    intro l
    induction l with
    | nil => exact ⟨rfl, rfl⟩
    | cons x l ih =>
      rw [List.reverse_cons, showableAll_append, depthAll_append, ih.1, ih.2]
      simp only [PyData.showableAll, PyData.depthAll, Bool.and_true]
      exact ⟨Bool.and_comm _ _, by omega⟩
  exact ⟨by rw [(all ds).1]; exact h.sh, by rw [(all ds).2]; exact h.dp, by rw [upAll_reverse]; exact h.up⟩
theorem SmD.tuple {B D : Nat} {ds : List PyData} (h : SmDs B D ds) : SmD (B + 3) (D + 1) (.tuple ds) := ⟨by simp only [PyData.showable]; exact h.sh, by simp only [PyData.depth]; have := h.dp; omega, by rw [up_tuple]; have := h.up; omega⟩
theorem SmD.list {B D : Nat} {ds : List PyData} (h : SmDs B D ds) : SmD (B + 3) (D + 1) (.list ds) := ⟨by simp only [PyData.showable]; exact h.sh, by simp only [PyData.depth]; have := h.dp; omega, by rw [up_list]; have := h.up; omega⟩
/-- repr of small data -/
theorem repr_sm {S : Sto} {p : PV} {d : PyData} {B D : Nat} {Q : Post} (h : PDt S p d) (s : SmD B D d) (hB : B ≤ 1000000) (hD : D ≤ 50) (q : Q (.str d.shown) S) : pRepr [p] S Q :=
  ⟨d, h, s.sh, Nat.le_trans s.dp hD, Nat.le_trans (Nat.le_trans (shown_up d h.noDict) s.up) (Nat.le_trans hB (by decide)), q⟩
theorem repr_len {S : Sto} {p : PV} {d : PyData} {B D : Nat} (h : PDt S p d) (s : SmD B D d) (hB : B ≤ 1000000) : d.shown.length ≤ sizeLine := Nat.le_trans (Nat.le_trans (shown_up d h.noDict) s.up) (Nat.le_trans hB (by decide))
/-! ### list comprehensions that change nothing -/
theorem runLc_pure {C : Sto → Prop} {i : Nat} {t : WT} {e : WE} {f : PV → PV} {g : PV → Bool} {fr : Fr} {S : Sto} {Q : List PV → Sto → Prop} (hC : C S) : ∀ (xs acc : List PV),
    (∀ x ∈ xs, ∀ Q' : Bool → Sto → Prop, Q' (g x) S → t (fr.set i (some x)) S Q') → (∀ x ∈ xs, g x = true → ∀ Q' : Post, Q' (f x) S → e (fr.set i (some x)) S Q') → acc.length + xs.length < 1000000 → Q (acc ++ (xs.filter g).map f) S → runLc C i t e xs fr S acc Q
  | [], acc, _, _, _, q => ⟨hC, by simpa using q⟩
  | x :: xs, acc, ht, he, hl, q => by
    refine ⟨hC, ht x List.mem_cons_self _ ?_⟩
    rw [List.length_cons] at hl
    cases hg : g x with
    | true =>
      refine iteT (he x List.mem_cons_self hg _ ⟨Nat.lt_of_le_of_lt (show acc.length ≤ 1000000 by omega) (by decide), ?_⟩)
      refine runLc_pure hC xs _ (fun y hy => ht y (List.mem_cons_of_mem _ hy)) (fun y hy => he y (List.mem_cons_of_mem _ hy)) (by rw [List.length_append, List.length_singleton]; omega) ?_
      rw [List.filter_cons, hg] at q
      simpa using q
    | false =>
      refine iteF ?_
      refine runLc_pure hC xs _ (fun y hy => ht y (List.mem_cons_of_mem _ hy)) (fun y hy => he y (List.mem_cons_of_mem _ hy)) (by omega) ?_
      rw [List.filter_cons, hg] at q
      simpa using q
theorem runLc_map {C : Sto → Prop} {i : Nat} {e : WE} {f : PV → PV} {fr : Fr} {S : Sto} {Q : List PV → Sto → Prop} (hC : C S) (xs : List PV) (he : ∀ x ∈ xs, ∀ Q' : Post, Q' (f x) S → e (fr.set i (some x)) S Q') (hl : xs.length < 1000000) (q : Q (xs.map f) S) : runLc C i wYes e xs fr S [] Q :=
  runLc_pure (g := fun _ => true) hC xs [] (fun _ _ _ h => h) (fun x hx _ => he x hx) (by simpa using hl) (by rw [List.filter_eq_self.mpr (fun _ _ => rfl)]; simpa using q)
/-- a walk, by what holds ahead of each turn -/
theorem runIts_by {g : WG} {b : WS} {D : PD} (I : List PV → Fr → Sto → Prop) (fin : ∀ fr S, I [] fr S → D.nx fr S)
    (step : ∀ (x : PV) (r : List PV) (fr : Fr) (S : Sto) (K : Fr → Sto → Prop), (∀ fr S, I r fr S → K fr S) → I (x :: r) fr S → g x fr S fun fr1 S1 => b ⟨K, D.rt, D.nx, K⟩ fr1 S1) : ∀ (xs : List PV) (fr : Fr) (S : Sto), I xs fr S → runIts g b xs D fr S
  | [], fr, S, h => fin fr S h
  | x :: r, fr, S, h => step x r fr S _ (fun fr S h => runIts_by I fin step r fr S h) h
end M

/-! SETs of places, and the program's functions of two SETs. -/
namespace M
variable [Tabs]
open PySem L2

abbrev iv (xs : List Int) : List PV := xs.map PV.int
theorem sl_end (S : Sto) (ys : List PV) : SL (S ++ [MO.lst ys]) S.length ys := .inl (by rw [List.getElem?_append_right (Nat.le_refl _)]; simp)

/-- all, any: nothing changes -/
theorem runGen_pure {C : Sto → Prop} {isAll : Bool} {i : Nat} {e : WE} {g : PV → Bool} {fr : Fr} {S : Sto} {Q : Post} (hC : C S) : ∀ xs : List PV, (∀ x ∈ xs, ∀ Q' : Post, Q' (.bl (g x)) S → e (fr.set i (some x)) S Q') →
    Q (.bl (if isAll then xs.all g else xs.any g)) S → runGen C isAll i wYes e xs fr S Q
  | [], _, q => ⟨hC, by cases isAll <;> exact q⟩
  | x :: xs, he, q => by
    refine ⟨hC, ?_⟩
    show if true = true then e (fr.set i (some x)) S (fun y S2 => ∃ c, y = .bl c ∧ if c = isAll then runGen C isAll i wYes e xs fr S2 Q else Q (.bl (!isAll)) S2) else runGen C isAll i wYes e xs fr S Q
    rw [if_pos rfl]
    refine he x List.mem_cons_self _ ⟨_, rfl, ?_⟩
    cases isAll with
    | true =>
      cases hg : g x with
      | true =>
        rw [if_pos rfl]
        refine runGen_pure hC xs (fun y hy => he y (List.mem_cons_of_mem _ hy)) ?_
        rw [if_pos rfl, List.all_cons, hg, Bool.true_and] at q
        exact q
      | false =>
        rw [if_neg (by decide)]
        rw [if_pos rfl, List.all_cons, hg, Bool.false_and] at q
        exact q
    | false =>
      cases hg : g x with
      | false =>
        rw [if_pos rfl]
        refine runGen_pure hC xs (fun y hy => he y (List.mem_cons_of_mem _ hy)) ?_
        rw [if_neg (by decide), List.any_cons, hg, Bool.false_or] at q
        exact q
      | true =>
        rw [if_neg (by decide)]
        rw [if_neg (by decide), List.any_cons, hg, Bool.true_or] at q
        exact q

/-! ### is_within, do_meet, taken_from, shared_by, put_together -/
def within (xs ys : List Int) : Bool := xs.all fun x => decide (x ∈ ys)
def meets (xs ys : List Int) : Bool := xs.any fun x => decide (x ∈ ys)
def taken (xs ys : List Int) : List Int := xs.filter fun x => !decide (x ∈ ys)
def shared (xs ys : List Int) : List Int := xs.filter fun x => decide (x ∈ ys)
/-! ### sets by their bits -/
def bset (n c : Nat) : List Int := ((List.range n).filter fun p => c.testBit p).map fun p : Nat => (p : Int)
theorem mem_bset {n c : Nat} {x : Int} : x ∈ bset n c ↔ ∃ p : Nat, x = p ∧ p < n ∧ c.testBit p = true := by
  unfold bset
  rw [List.mem_map]
  constructor
  · rintro ⟨p, hp, rfl⟩
    obtain ⟨h1, h2⟩ := List.mem_filter.mp hp
    exact ⟨p, rfl, List.mem_range.mp h1, h2⟩
  · rintro ⟨p, rfl, h1, h2⟩
    exact ⟨p, List.mem_filter.mpr ⟨List.mem_range.mpr h1, h2⟩, rfl⟩
theorem bset_sorted (n c : Nat) : (bset n c).Pairwise (· < ·) := by
  unfold bset
  rw [List.pairwise_map]
  refine List.Pairwise.filter _ ?_
  exact List.Pairwise.imp (fun h => by omega) (List.pairwise_lt_range (n := n))
theorem bset_length (n c : Nat) : (bset n c).length ≤ n := by
  unfold bset
  rw [List.length_map]
  have := List.length_filter_le (fun p => c.testBit p) (List.range n)
  rw [List.length_range] at this
  exact this
theorem sorted_ext : ∀ {xs ys : List Int}, xs.Pairwise (· < ·) → ys.Pairwise (· < ·) → (∀ x, x ∈ xs ↔ x ∈ ys) → xs = ys := fun {xs ys} hx hy h => by
  have nd : ∀ {l : List Int}, l.Pairwise (· < ·) → l.Nodup := fun hl => hl.imp fun h => by omega
  have hp : xs.Perm ys := (List.perm_ext_iff_of_nodup (nd hx) (nd hy)).mpr h
  exact hp.eq_of_pairwise (fun a b _ _ h1 h2 => by omega) hx hy
/-- the bits of a comprehension over range -/
theorem bit_test (c p : Nat) : decide (Builtin.bitAnd ((c : Int) / 2 ^ (((p : Nat) : Int).toNat)) 1 = 1) = c.testBit p := by
  have e : (c : Int) / 2 ^ (((p : Nat) : Int).toNat) = ((c / 2 ^ p : Nat) : Int) := by
    rw [Int.toNat_natCast]; norm_cast
  rw [e]
  unfold Builtin.bitAnd
  have h1 : decide ((0 : Int) ≤ ((c / 2 ^ p : Nat) : Int)) = true := decide_eq_true (Int.natCast_nonneg _)
  have h2 : decide ((0 : Int) ≤ 1) = true := by decide
  rw [h1, h2]
  show decide ((((((c / 2 ^ p : Nat) : Int).toNat &&& (1 : Int).toNat : Nat)) : Int) = 1) = _
  rw [Int.toNat_natCast]
  show decide (((c / 2 ^ p &&& 1 : Nat) : Int) = 1) = _
  rw [Nat.and_one_is_mod, Nat.testBit, Nat.shiftRight_eq_div_pow, Nat.one_and_eq_mod_two]
  rcases Nat.mod_two_eq_zero_or_one (c / 2 ^ p) with h | h <;> rw [h] <;> rfl
/-- a SET's data -/
abbrev dts (xs : List Int) : List PyData := xs.map PyData.int
/-! what the functions of two SETs come to, by bits -/
section
variable {n a b : Nat}
theorem mem_bset' {p : Nat} : ((p : Int) ∈ bset n a) ↔ (p < n ∧ a.testBit p = true) := by
  rw [mem_bset]
  constructor
  · rintro ⟨q, e, h⟩
    have : p = q := by omega
    subst this
    exact h
  · exact fun h => ⟨p, rfl, h⟩
theorem eq_of_bits (ha : a < 2 ^ n) (hb : b < 2 ^ n) (h : ∀ p, p < n → a.testBit p = b.testBit p) : a = b := by
  refine Nat.eq_of_testBit_eq fun p => ?_
  by_cases hp : p < n
  · exact h p hp
  · rw [Nat.testBit_lt_two_pow (Nat.lt_of_lt_of_le ha (Nat.pow_le_pow_right (by decide) (by omega))), Nat.testBit_lt_two_pow (Nat.lt_of_lt_of_le hb (Nat.pow_le_pow_right (by decide) (by omega)))]
theorem within_bset (ha : a < 2 ^ n) : within (bset n a) (bset n b) = decide (a &&& b = a) := by
  have e : (within (bset n a) (bset n b) = true) ↔ a &&& b = a := by
    unfold within
    rw [List.all_eq_true]
    constructor
    · intro h
      refine eq_of_bits (n := n) (Nat.lt_of_le_of_lt Nat.and_le_left ha) ha fun p hp => ?_
      rw [Nat.testBit_and]
      cases hx : a.testBit p with
      | false => rfl
      | true =>
        have := h p (mem_bset'.mpr ⟨hp, hx⟩)
        rw [decide_eq_true_iff, mem_bset'] at this
        rw [this.2]; rfl
    · intro h x hx
      obtain ⟨p, rfl, h1, h2⟩ := mem_bset.mp hx
      rw [decide_eq_true_iff, mem_bset']
      refine ⟨h1, ?_⟩
      rw [← h, Nat.testBit_and, Bool.and_eq_true] at h2
      exact h2.2
  by_cases h : a &&& b = a
  · rw [decide_eq_true h]; exact e.mpr h
  · rw [decide_eq_false h]
    cases hw : within (bset n a) (bset n b) with
    | false => rfl
    | true => exact absurd (e.mp hw) h
end
theorem get_end (S : Sto) (o : MO) : (S ++ [o])[S.length]? = some o := by rw [List.getElem?_append_right (Nat.le_refl _)]; simp
end M

namespace M
open PySem L2
variable [Tabs]
/-- nothing is changed, more may lie there -/
structure Ext (S S' : Sto) : Prop where
  keep : ∀ (m : Nat) (o : MO), S[m]? = some o → S'[m]? = some o
  len : S.length ≤ S'.length
theorem Ext.refl (S : Sto) : Ext S S := ⟨fun _ _ h => h, Nat.le_refl _⟩
theorem Ext.trans {S S1 S2 : Sto} (f : Ext S S1) (g : Ext S1 S2) : Ext S S2 := ⟨fun m o e => g.keep m o (f.keep m o e), Nat.le_trans f.len g.len⟩
theorem Ext.app (S X : Sto) : Ext S (S ++ X) := ⟨fun m o e => by rw [List.getElem?_append_left (List.getElem?_eq_some_iff.mp e).1]; exact e, by rw [List.length_append]; omega⟩
theorem Ext.sl {S S' : Sto} (f : Ext S S') {n : Nat} {xs : List PV} (h : SL S n xs) : SL S' n xs := h.imp (f.keep _ _) (f.keep _ _)
theorem Ext.grow {S S' : Sto} (f : Ext S S') (n : Nat) : Grow n S S' := ⟨fun m o _ e => f.keep m o e, f.len⟩
theorem Feed.ext {S S' : Sto} {n T : Nat} (F : Feed S n T) (f : Ext S S') : Feed S' n T := by
  obtain ⟨c, a, l, t, ns, h1, h2, r⟩ := F.ex
  exact ⟨c, a, l, t, ns, f.keep _ _ h1, f.keep _ _ h2, r⟩
/-- a change of what was laid behind S is none to S -/
theorem Ext.set {S S' : Sto} (f : Ext S S') {n : Nat} (h : S.length ≤ n) (o : MO) : Ext S (S'.set n o) := ⟨fun m u e => by
  have := (List.getElem?_eq_some_iff.mp e).1
  rw [List.getElem?_set_ne (by omega)]; exact f.keep m u e, by rw [List.length_set]; exact f.len⟩
theorem Ext.lt {S S' : Sto} (f : Ext S S') {n : Nat} {o : MO} (h : S[n]? = some o) : n < S'.length := by
  have := (List.getElem?_eq_some_iff.mp h).1
  have := f.len
  omega
theorem lt_len {S : Sto} {n : Nat} {o : MO} (h : S[n]? = some o) : n < S.length := (List.getElem?_eq_some_iff.mp h).1
/-- the law's script -/
theorem law_in {vs : List PV} {S : Sto} {Q : Post} (h : spLaw vs S Q) : ∃ (p0 : PV) (ns : List Int), vs = [p0] ∧ ns.length ≤ 63 ∧ ((∃ n : Nat, p0 = .ref n ∧ S[n]? = some (.ro (ns.map PV.int))) ∨ p0 = .kls (ns.map PV.int)) ∧ ∀ S', Q (.bl true) S' := by
  obtain ⟨ns, hl, hvs, q⟩ := h
  rcases hvs with ⟨rfl, rfl⟩ | ⟨rfl, rfl⟩
  · exact ⟨_, ns, rfl, hl, .inl ⟨0, rfl, rfl⟩, q⟩
  · exact ⟨_, ns, rfl, hl, .inr rfl, q⟩
/-- what is sorted is told by its parts -/
theorem lex_unique {xs ys : List (List Int)} (hp : xs.Perm ys) (hx : xs.Pairwise fun a b => HT.lexLt b a = false) (hy : ys.Pairwise fun a b => HT.lexLt b a = false) : xs = ys :=
  hp.eq_of_pairwise (fun a b _ _ h1 h2 => TS.lex_anti a b h2 h1) hx hy
end M

/-! Families of SETs by codes: the least ones, in order. -/
namespace M
open PySem L2
variable [Tabs]
theorem lex_strict {a b c : List Int} (h1 : HT.lexLt a b = true) (h2 : HT.lexLt b c = true) : HT.lexLt a c = true := by
  cases h : HT.lexLt a c with
  | true => rfl
  | false =>
    have := TS.lex_tr c a b h (TS.lex_asy a b h1)
    rw [h2] at this
    exact nomatch this
abbrev StrL (xs : List (List Int)) : Prop := xs.Pairwise fun a b => HT.lexLt a b = true
theorem StrL.nodup {xs : List (List Int)} (h : StrL xs) : xs.Nodup := by
  refine List.Pairwise.imp (fun {a b} hab e => ?_) h
  subst e
  rw [TS.lex_irr] at hab
  exact nomatch hab
theorem srt_unique {xs ys : List (List Int)} (hx : StrL xs) (hy : StrL ys) (h : ∀ r, r ∈ xs ↔ r ∈ ys) : xs = ys := by
  refine lex_unique ((List.perm_ext_iff_of_nodup hx.nodup hy.nodup).mpr h) ?_ ?_
  · exact List.Pairwise.imp (fun {a b} hab => TS.lex_asy a b hab) hx
  · exact List.Pairwise.imp (fun {a b} hab => TS.lex_asy a b hab) hy
theorem strict_of {xs : List (List Int)} (h : xs.Pairwise fun a b => HT.lexLt b a = false) (nd : xs.Nodup) : StrL xs := by
  refine List.Pairwise.imp (fun {a b} hab => ?_) (List.Pairwise.and h nd)
  cases hc : HT.lexLt a b with
  | true => rfl
  | false => exact absurd (TS.lex_anti a b hc hab.1) hab.2
def insS (r : List Int) : List (List Int) → List (List Int)
  | [] => [r]
  | x :: l => if HT.lexLt r x then r :: x :: l else if HT.lexLt x r then x :: insS r l else x :: l
theorem ins_mem (r : List Int) : ∀ (l : List (List Int)) (z : List Int), z ∈ insS r l ↔ z = r ∨ z ∈ l
  | [], z => by simp [insS]
  | x :: l, z => by
    unfold insS
    split
    · simp
    · split
      · rw [List.mem_cons, ins_mem r l z, List.mem_cons]
        constructor
        · rintro (h | h | h)
          · exact .inr (.inl h)
          · exact .inl h
          · exact .inr (.inr h)
        · rintro (h | h | h)
          · exact .inr (.inl h)
          · exact .inl h
          · exact .inr (.inr h)
      · rename_i h1 h2
        have e : r = x := TS.lex_anti r x (by simpa using h1) (by simpa using h2)
        subst e
        simp
theorem ins_srt (r : List Int) : ∀ (l : List (List Int)), StrL l → StrL (insS r l)
  | [], _ => List.pairwise_singleton _ _
  | x :: l, h => by
    have h' := List.pairwise_cons.mp h
    unfold insS
    split
    · rename_i h1
      refine List.pairwise_cons.mpr ⟨fun z hz => ?_, h⟩
      rcases List.mem_cons.mp hz with rfl | hz
      · exact h1
      · exact lex_strict h1 (h'.1 z hz)
    · split
      · rename_i h1 h2
        refine List.pairwise_cons.mpr ⟨fun z hz => ?_, ins_srt r l h'.2⟩
        rcases (ins_mem r l z).mp hz with rfl | hz
        · exact h2
        · exact h'.1 z hz
      · exact h
def isMin (cs : List Nat) (one : Nat) : Bool := (cs.filter fun o => (decide (o ≠ one)) && decide (o &&& one = o)).isEmpty
theorem isMin_iff {cs : List Nat} {one : Nat} : isMin cs one = true ↔ ∀ o ∈ cs, o &&& one = o → o = one := by
  unfold isMin
  rw [List.isEmpty_iff, List.filter_eq_nil_iff]
  constructor
  · intro h o ho e
    refine Classical.byContradiction fun c => h o ho ?_
    simp [c, e]
  · intro h o ho c
    simp only [Bool.and_eq_true, decide_eq_true_eq] at c
    exact c.1 (h o ho c.2)
def mins (cs : List Nat) : List Nat := cs.filter (isMin cs)
def fam (cs : List Nat) : List (List Int) := ((mins cs).map (bset 8)).foldr insS []
theorem foldr_ins : ∀ l : List (List Int), StrL (l.foldr insS []) ∧ ∀ z, z ∈ l.foldr insS [] ↔ z ∈ l
  | [] => ⟨List.Pairwise.nil, fun _ => Iff.rfl⟩
  | x :: l => by
    obtain ⟨a, b⟩ := foldr_ins l
    refine ⟨ins_srt x _ a, fun z => ?_⟩
    rw [List.foldr_cons, ins_mem, b, List.mem_cons]
theorem fam_srt (cs : List Nat) : StrL (fam cs) := (foldr_ins _).1
theorem fam_mem {cs : List Nat} {r : List Int} : r ∈ fam cs ↔ ∃ c ∈ cs, (∀ o ∈ cs, o &&& c = o → o = c) ∧ r = bset 8 c := by
  unfold fam
  rw [(foldr_ins _).2, List.mem_map]
  constructor
  · rintro ⟨c, hc, rfl⟩
    obtain ⟨h1, h2⟩ := List.mem_filter.mp hc
    exact ⟨c, h1, isMin_iff.mp h2, rfl⟩
  · rintro ⟨c, h1, h2, rfl⟩
    exact ⟨c, List.mem_filter.mpr ⟨h1, isMin_iff.mpr h2⟩, rfl⟩
theorem fam_eq {cs : List Nat} {out : List (List Int)} (h1 : StrL out) (h2 : ∀ r, r ∈ out ↔ ∃ c ∈ cs, (∀ o ∈ cs, o &&& c = o → o = c) ∧ r = bset 8 c) : out = fam cs :=
  srt_unique h1 (fam_srt cs) fun r => by rw [h2, fam_mem]
/-! ### SETs of eight places -/
theorem b8_inj {a b : Nat} (ha : a < 256) (hb : b < 256) (h : bset 8 a = bset 8 b) : a = b := by
  refine eq_of_bits (n := 8) ha hb fun p hp => ?_
  have e : ((p : Int) ∈ bset 8 a) ↔ ((p : Int) ∈ bset 8 b) := by rw [h]
  rw [mem_bset', mem_bset'] at e
  cases h1 : a.testBit p <;> cases h2 : b.testBit p <;> simp [hp, h1, h2] at e <;> rfl
def codeOf (r : List Int) : Nat := (r.map fun p => 2 ^ p.toNat).sum
theorem code_all : (List.range 256).all (fun c => codeOf (bset 8 c) == c) = true := by decide +kernel
theorem code_b8 {c : Nat} (h : c < 256) : codeOf (bset 8 c) = c := by
  have := List.all_eq_true.mp code_all c (List.mem_range.mpr h)
  simpa using this
theorem and_trans {a b c : Nat} (h1 : a &&& b = a) (h2 : b &&& c = b) : a &&& c = a := by rw [← h1, Nat.and_assoc, h2]
theorem sub_len {a b : Nat} (ha : a < 256) (hb : b < 256) (h : a &&& b = a) (hl : (bset 8 b).length ≤ (bset 8 a).length) : a = b := by
  have nd : ∀ c, (bset 8 c).Nodup := fun c => List.Pairwise.imp (fun {x y} hxy e => by omega) (bset_sorted 8 c)
  have sub : ∀ x ∈ bset 8 a, x ∈ bset 8 b := fun x hx => by
    have := within_bset (n := 8) (b := b) ha
    rw [decide_eq_true h] at this
    unfold within at this
    have := List.all_eq_true.mp this x hx
    simpa using this
  have hp : ((bset 8 b).filter fun x => decide (x ∈ bset 8 a)).Perm (bset 8 a) := by
    rw [List.perm_ext_iff_of_nodup ((nd b).filter _) (nd a)]
    intro x
    rw [List.mem_filter, decide_eq_true_eq]
    exact ⟨fun h => h.2, fun h => ⟨sub x h, h⟩⟩
  have e : ((bset 8 b).filter fun x => decide (x ∈ bset 8 a)).length = (bset 8 b).length := by
    have := hp.length_eq
    have := List.length_filter_le (fun x => decide (x ∈ bset 8 a)) (bset 8 b)
    omega
  have all := List.length_filter_eq_length_iff.mp e
  refine b8_inj ha hb (sorted_ext (bset_sorted 8 a) (bset_sorted 8 b) fun x => ⟨sub x, fun hx => ?_⟩)
  simpa using all x hx
/-- what going up by length keeps -/
structure Up (p L : List Nat) : Prop where
  sub : ∀ l ∈ L, l ∈ p
  cov : ∀ d ∈ p, ∃ l ∈ L, l &&& d = l
  min : ∀ l ∈ L, ∀ d ∈ p, d &&& l = d → d = l
  nd : L.Nodup
theorem Up.nil : Up [] [] := ⟨(fun _ h => by cases h), (fun _ h => by cases h), (fun _ h => by cases h), List.Pairwise.nil⟩
theorem Up.step {p L : List Nat} (U : Up p L) {x : Nat} (hx : x < 256) (hp : ∀ d ∈ p, d < 256) (hl : ∀ d ∈ p, (bset 8 d).length ≤ (bset 8 x).length) : Up (p ++ [x]) (if L.any (fun l => decide (l &&& x = l)) then L else L ++ [x]) := by
  have back : ∀ l ∈ p, x &&& l = x → x = l := fun l h e => sub_len hx (hp l h) e (hl l h)
  have inp : ∀ {d}, d ∈ p ++ [x] → d ∈ p ∨ d = x := fun h => by
    rcases List.mem_append.mp h with h | h
    · exact .inl h
    · exact .inr (List.mem_singleton.mp h)
  by_cases c : L.any (fun l => decide (l &&& x = l)) = true
  · rw [if_pos c]
    obtain ⟨l, hl1, hl2⟩ := List.any_eq_true.mp c
    refine ⟨fun l h => List.mem_append_left _ (U.sub l h), fun d h => ?_, fun l h d hd e => ?_, U.nd⟩
    · rcases inp h with h | rfl
      · exact U.cov d h
      · exact ⟨l, hl1, by simpa using hl2⟩
    · rcases inp hd with hd | rfl
      · exact U.min l h d hd e
      · exact back l (U.sub l h) e
  · rw [if_neg c]
    have none : ∀ l ∈ L, ¬ (l &&& x = l) := fun l h e => c (List.any_eq_true.mpr ⟨l, h, by simpa using e⟩)
    refine ⟨fun l h => ?_, fun d h => ?_, fun l h d hd e => ?_, ?_⟩
    · rcases List.mem_append.mp h with h | h
      · exact List.mem_append_left _ (U.sub l h)
      · exact List.mem_append_right _ h
    · rcases inp h with h | rfl
      · obtain ⟨l, a, b⟩ := U.cov d h
        exact ⟨l, List.mem_append_left _ a, b⟩
      · exact ⟨d, List.mem_append_right _ List.mem_cons_self, Nat.and_self d⟩
    · rcases List.mem_append.mp h with hL | hL
      · rcases inp hd with hd' | hd'
        · exact U.min l hL d hd' e
        · rw [hd'] at e ⊢
          exact back l (U.sub l hL) e
      · rw [List.mem_singleton] at hL
        rcases inp hd with hd' | hd'
        · obtain ⟨l', a, b⟩ := U.cov d hd'
          rw [hL] at e
          exact absurd (and_trans b e) (none l' a)
        · rw [hd', hL]
    · unfold List.Nodup
      rw [List.pairwise_append]
      refine ⟨U.nd, List.pairwise_singleton _ _, fun a ha b hb e => ?_⟩
      rw [List.mem_singleton] at hb
      subst hb
      subst e
      exact none a ha (Nat.and_self a)
/-- the least ones, sorted -/
theorem Up.fam {cs ds L : List Nat} (U : Up ds L) (hp : ds.Perm cs) (hc : ∀ c ∈ cs, c < 256) {rows : List (List Int)} (hr : rows.Perm (L.map (bset 8))) (hs : rows.Pairwise fun a b => HT.lexLt b a = false) : rows = fam cs := by
  have nd : rows.Nodup := by
    rw [hr.nodup_iff]
    unfold List.Nodup
    rw [List.pairwise_map]
    refine List.Pairwise.imp_of_mem (fun {a b} ha hb hab e => hab (b8_inj ?_ ?_ e)) U.nd
    · exact hc a (hp.mem_iff.mp (U.sub a ha))
    · exact hc b (hp.mem_iff.mp (U.sub b hb))
  refine fam_eq (strict_of hs nd) fun r => ?_
  rw [hr.mem_iff, List.mem_map]
  constructor
  · rintro ⟨l, hl, rfl⟩
    exact ⟨l, hp.mem_iff.mp (U.sub l hl), fun o ho e => U.min l hl o (hp.mem_iff.mpr ho) e, rfl⟩
  · rintro ⟨c, h1, h2, rfl⟩
    obtain ⟨l, hl, e⟩ := U.cov c (hp.mem_iff.mpr h1)
    have := h2 l (hp.mem_iff.mp (U.sub l hl)) e
    subst this
    exact ⟨l, hl, rfl⟩
end M

/-! The helpers of the laws of families: codes, SETs, least ones, families. -/
namespace M
open PySem L2
variable [Tabs]
abbrev cv (cs : List Nat) : List PV := cs.map fun c : Nat => PV.int (c : Int)
def sv (c : Nat) : PV := tv (bset 8 c)
def fv (n : PV) (cs : List Nat) : PV := .tup [n, .tup ((fam cs).map tv)]
theorem mem_cv {cs : List Nat} {p : PV} (h : p ∈ cv cs) : ∃ c ∈ cs, p = .int (c : Nat) := by
  obtain ⟨c, hc, rfl⟩ := List.mem_map.mp h
  exact ⟨c, hc, rfl⟩
theorem cv_filter {g : PV → Bool} {h : Nat → Bool} : ∀ {cs : List Nat}, (∀ c ∈ cs, g (.int (c : Nat)) = h c) → (cv cs).filter g = cv (cs.filter h)
  | [], _ => rfl
  | c :: cs, e => by
    rw [show cv (c :: cs) = .int (c : Nat) :: cv cs from rfl, List.filter_cons, List.filter_cons, e c List.mem_cons_self, cv_filter fun d hd => e d (List.mem_cons_of_mem _ hd)]
    cases h c <;> rfl
theorem range_cv (n : Nat) : rangeP 0 n = cv (List.range n) := by
  unfold rangeP cv
  refine List.map_congr_left fun i _ => ?_
  show PV.int (0 + (i : Int)) = PV.int (i : Int)
  rw [Int.zero_add]
/-! ### _law_set -/
def w5_set : WS :=
    (wRet (wCall pTuple (wCons (wLc 1 (wRange1 (wCons (wC (.int 8)) wNil)) (wB (wOp (bEq false) (wOp bAnd (wOp bShr (wVar 0) (wVar 1)) (wC (.int 1))) (wC (.int 1)))) (wVar 1)) wNil)))
def N5_set : List Str := ["a", "b"]
def sp5_set : PSp := fun vs S Q => ∃ c : Nat, vs = [.int c] ∧ ∀ S', Ext S S' → Q (sv c) S'
theorem len5_set : ∀ vs S Q, sp5_set vs S Q → vs.length = 1 := by rintro _ S Q ⟨c, rfl, _⟩; rfl
theorem rd5_set : ∀ vs S Q, sp5_set vs S Q → w5_set { nx := fun _ S' => Q .non S', rt := Q } (startP N5_set vs) S := by
  rintro _ S Q ⟨c, rfl, q⟩
  refine ⟨8, rfl, ⟨by decide, by decide⟩, ?_⟩
  show runLc _ 1 _ _ (rangeP 0 8) _ _ _ _
  rw [range_cv]
  refine runLc_pure (f := fun x => x) (g := fun p => match p with | .int i => decide (Builtin.bitAnd ((c : Int) / 2 ^ i.toNat) 1 = 1) ^^ false | _ => false) trivial _ [] (fun x hx Q' q' => ?_) (fun x hx _ Q' q' => ⟨_, rfl, q'⟩) (by simp) ?_
  · obtain ⟨p, _, rfl⟩ := mem_cv hx
    exact ⟨_, rfl, _, rfl, by omega, _, rfl, q'⟩
  · rw [List.nil_append, List.map_id', cv_filter (h := fun p => c.testBit p) fun p _ => by rw [← bit_test]; simp]
    refine ⟨_, sl_end _ _, ?_⟩
    have e : cv ((List.range 8).filter fun p => c.testBit p) = (bset 8 c).map PV.int := by
      unfold bset cv
      rw [List.map_map]; rfl
    rw [e]
    exact q _ (Ext.app S _)
/-! ### _law_code -/
/-! ### _law_least -/
theorem eqv_nil (ds : List PyData) : PyData.eqv (.list ds) (.list []) = ds.isEmpty := by
  cases ds <;> rfl
/-! ### _law_family -/
/-! ### least_ones -/
end M

/-! The drawn family. -/
namespace M
open PySem L2
variable [Tabs]
theorem Grow.sl {f m : Nat} {S S' : Sto} {T : Nat} {xs : List PV} (F : Feed S f T) (g : Grow f S S') (h : SL S m xs) : SL S' m xs := SL.grow g F.nosl h
theorem Grow.setN {f m : Nat} {S S' : Sto} (g : Grow f S S') (h : S.length ≤ m) (o : MO) : Grow f S (S'.set m o) := ⟨fun k u hk e => by
  rw [List.getElem?_set_ne (by have := lt_len e; omega)]; exact g.keep k u hk e, by rw [List.length_set]; exact g.len⟩
theorem Feed.setN {f m T : Nat} {S : Sto} (F : Feed S f T) (h : f < m) (o : MO) : Feed (S.set m o) f T := by
  obtain ⟨c, a, l, t, ns, h1, h2, h3, h4, h5, h6, h7, h8⟩ := F.ex
  exact ⟨c, a, l, t, ns, by rw [List.getElem?_set_ne (by omega)]; exact h1, by rw [List.getElem?_set_ne (by omega)]; exact h2, h3, h4, h5, h6, h7, h8⟩
end M

/-! all_sets; meeters; the other family. -/
namespace M
open PySem L2
variable [Tabs]
def fb (s : List Int) : Int := match s.getLast? with | some l => l + 1 | none => 0
def nx (n : Nat) (s : List Int) : List (List Int) := (List.range ((n : Int) - fb s).toNat).map fun i : Nat => s ++ [fb s + i]
def lv (n : Nat) : Nat → List (List Int)
  | 0 => [[]]
  | k + 1 => (lv n k).flatMap (nx n)
def ac (n : Nat) : Nat → List (List Int)
  | 0 => [[]]
  | k + 1 => ac n k ++ lv n (k + 1)
def rows (n : Nat) : List (List Int) := (List.range (2 ^ n)).map fun c => bset n c
def okB (n : Nat) : Bool := (List.range (n + 1)).all fun k => (lv n k).isPerm ((rows n).filter fun r => r.length == k) && decide ((lv n k).Pairwise fun a b => HT.lexLt b a = false) && (lv n k).all (fun s => decide (0 ≤ fb s) && decide (fb s ≤ 9) && decide (s.length ≤ 8) && s.all fun x => decide (0 ≤ x) && decide (x ≤ 9)) && decide ((lv n k).length ≤ 256) && decide ((ac n k).length ≤ 256)
end M

/-! Meeters and the other family. -/
namespace M
open PySem L2
variable [Tabs]
def meet (F : List Nat) (c : Nat) : Bool := F.all fun a => !decide (a &&& c = 0)
def fcs (cs : List Nat) : List Nat := (fam cs).map codeOf
/-! ### is_meeter, other_family -/
/-- the codes that meet all -/
def mts (n : Nat) (F : List Nat) : List Nat := (List.range (2 ^ n)).filter (meet F)
theorem mts_lt {n : Nat} {F : List Nat} : ∀ c ∈ mts n F, c < 2 ^ n := fun c h => List.mem_range.mp (List.mem_filter.mp h).1
/-! ### meeters one place less -/
theorem meet_mono {F : List Nat} {a b : Nat} (h : a &&& b = a) (hm : meet F a = true) : meet F b = true := by
  unfold meet at *
  rw [List.all_eq_true] at *
  intro x hx
  have := hm x hx
  simp only [Bool.not_eq_true', decide_eq_false_iff_not] at this ⊢
  intro c
  apply this
  rw [← h, Nat.and_comm a b, ← Nat.and_assoc, c, Nat.zero_and]
end M

/-! What holds; the other family of both. -/
namespace M
open PySem L2
variable [Tabs]
def hold (F : List Nat) (c : Nat) : Bool := F.any fun a => decide (a &&& c = a)
theorem hold_iff {F : List Nat} {c : Nat} : hold F c = true ↔ ∃ a ∈ F, a &&& c = a := by
  unfold hold
  rw [List.any_eq_true]
  exact ⟨fun ⟨a, h, e⟩ => ⟨a, h, by simpa using e⟩, fun ⟨a, h, e⟩ => ⟨a, h, by simpa using e⟩⟩
theorem meet_iff {F : List Nat} {c : Nat} : meet F c = true ↔ ∀ a ∈ F, a &&& c ≠ 0 := by
  unfold meet
  rw [List.all_eq_true]
  exact ⟨fun h a ha => by simpa using h a ha, fun h a ha => by simpa using h a ha⟩
def comp (n x : Nat) : Nat := x ^^^ (2 ^ n - 1)
theorem comp_bit (n x i : Nat) : (comp n x).testBit i = (x.testBit i ^^ decide (i < n)) := by
  unfold comp
  rw [Nat.testBit_xor, Nat.testBit_two_pow_sub_one]
theorem bit_out {n x i : Nat} (hx : x < 2 ^ n) (hi : n ≤ i) : x.testBit i = false := Nat.testBit_lt_two_pow (Nat.lt_of_lt_of_le hx (Nat.pow_le_pow_right (by decide) hi))
theorem comp_lt {n x : Nat} (hx : x < 2 ^ n) : comp n x < 2 ^ n := by
  refine Nat.lt_pow_two_of_testBit _ fun i hi => ?_
  rw [comp_bit, bit_out hx hi, decide_eq_false (by omega)]
  rfl
theorem comp_comp {n x : Nat} : comp n (comp n x) = x := by
  apply Nat.eq_of_testBit_eq
  intro i
  rw [comp_bit, comp_bit]
  cases x.testBit i <;> cases decide (i < n) <;> rfl
theorem and_comp {n a x : Nat} (ha : a < 2 ^ n) : a &&& comp n x = 0 ↔ a &&& x = a := by
  constructor
  · intro h
    apply Nat.eq_of_testBit_eq
    intro i
    have hi : (a.testBit i && (comp n x).testBit i) = false := by rw [← Nat.testBit_and, h, Nat.zero_testBit]
    rw [comp_bit] at hi
    rw [Nat.testBit_and]
    by_cases c : i < n
    · rw [decide_eq_true c] at hi
      cases h1 : a.testBit i <;> cases h2 : x.testBit i <;> simp [h1, h2] at hi <;> rfl
    · rw [bit_out ha (by omega)]; rfl
  · intro h
    apply Nat.eq_of_testBit_eq
    intro i
    have hi : (a.testBit i && x.testBit i) = a.testBit i := by rw [← Nat.testBit_and, h]
    rw [Nat.testBit_and, comp_bit, Nat.zero_testBit]
    by_cases c : i < n
    · rw [decide_eq_true c]
      cases h1 : a.testBit i <;> cases h2 : x.testBit i <;> simp [h1, h2] at hi <;> rfl
    · rw [bit_out ha (by omega)]; rfl
theorem meet_comp {n x : Nat} {F : List Nat} (hF : ∀ a ∈ F, a < 2 ^ n) : meet F (comp n x) = !hold F x := by
  rw [Bool.eq_iff_iff, meet_iff, Bool.not_eq_true', ← Bool.not_eq_true, hold_iff]
  constructor
  · rintro h ⟨a, ha, e⟩
    exact h a ha ((and_comp (hF a ha)).mpr e)
  · intro h a ha e
    exact h ⟨a, ha, (and_comp (hF a ha)).mp e⟩
/-! ### does_hold -/
end M

/-! A least meeter within a SET. -/
namespace M
open PySem L2
variable [Tabs]
end M

/-! Whole numbers, SETs and FAMILIES among any things. -/
namespace M
open PySem L2
variable [Tabs]
def w11_is_whole : WS :=
    (wRet (wAndV (wCall pIsi (wCons (wVar 0) (wCons (wC (.ty "int")) wNil))) (wNotV (wCall pIsi (wCons (wVar 0) (wCons (wC (.ty "bool")) wNil))))))
def N11_is_whole : List Str := ["a"]
def w11_is_number_below (sp_is_whole : PSp) : WS :=
    (wRet (wAndV (wCall sp_is_whole (wCons (wVar 0) wNil)) (wChain bLe bLt (wC (.int 0)) (wVar 0) (wVar 1))))
def N11_is_number_below : List Str := ["a", "b"]
def w11_is_set (sp_is_number_below : PSp) : WS :=
    (wSeq (wIfS (wNotT (wTru (wCall pIsi (wCons (wVar 1) (wCons (wC (.ty "tuple")) wNil))))) (wRet (wC (.bl false))) wNext)
    (wSeq (wAsg (wUn bNeg (wC (.int 1))) (pName 2))
    (wSeq (wFor (wISeq (wVar 1)) (pName 3) (wSeq (wIfS (wOrT (wNotT (wTru (wCall sp_is_number_below (wCons (wVar 3) (wCons (wVar 0) wNil))))) (wB (wOp bLe (wVar 3) (wVar 2)))) (wRet (wC (.bl false))) wNext)
    (wAsg (wVar 3) (pName 2))))
    (wRet (wC (.bl true))))))
def N11_is_set : List Str := ["a", "b", "c", "d"]
def Pl (S : Sto) (p : PV) : Prop := ∃ d, PDt S p d
def isInt : PV → Bool
  | .int _ => true | .bl _ => true | _ => false
def isBl : PV → Bool
  | .bl _ => true | _ => false
def isTup : PV → Bool
  | .tup _ => true | _ => false
def whole : PV → Bool
  | .int _ => true | _ => false
theorem kind_of {S : Sto} {p : PV} (h : Pl S p) : ∃ k, kindP S p k ∧ isA k "int" = some (isInt p) ∧ isA k "bool" = some (isBl p) ∧ isA k "tuple" = some (isTup p) := by
  obtain ⟨d, h⟩ := h
  cases h with
  | non => exact ⟨.none, rfl, rfl, rfl, rfl⟩
  | bl b => exact ⟨.bool, rfl, rfl, rfl, rfl⟩
  | int i => exact ⟨.int, rfl, rfl, rfl, rfl⟩
  | str x => exact ⟨.str, rfl, rfl, rfl, rfl⟩
  | tup _ => exact ⟨.tuple, rfl, rfl, rfl, rfl⟩
  | lst hs _ => exact ⟨.list, .inl ⟨rfl, _, hs⟩, rfl, rfl, rfl⟩
/-- is_whole, both of them -/
def sp11_is_whole : PSp := fun vs S Q => ∃ p, vs = [p] ∧ Pl S p ∧ Q (.bl (whole p)) S
theorem len11_is_whole : ∀ vs S Q, sp11_is_whole vs S Q → vs.length = 1 := by rintro _ S Q ⟨p, rfl, _⟩; rfl
theorem rd11_is_whole : ∀ vs S Q, sp11_is_whole vs S Q → w11_is_whole { nx := fun _ S' => Q .non S', rt := Q } (startP N11_is_whole vs) S := by
  rintro _ S Q ⟨p, rfl, hp, q⟩
  obtain ⟨k, h1, h2, h3, _⟩ := kind_of hp
  refine ⟨p, rfl, k, _, h1, h2, _, rfl, ?_⟩
  cases hi : isInt p with
  | false =>
    refine iteF ?_
    have e : whole p = false := by cases p <;> first | rfl | exact Bool.noConfusion hi
    rw [e] at q
    exact q
  | true =>
    refine iteT ⟨p, rfl, k, _, h1, h3, _, rfl, ?_⟩
    have e : whole p = !isBl p := by cases p <;> first | rfl | exact Bool.noConfusion hi
    rw [e] at q
    exact q
def below (p : PV) (m : Int) : Bool := match p with
  | .int i => decide (0 ≤ i) && decide (i < m)
  | _ => false
def sp11_is_number_below : PSp := fun vs S Q => ∃ p m, vs = [p, .int m] ∧ Pl S p ∧ Q (.bl (below p m)) S
theorem len11_is_number_below : ∀ vs S Q, sp11_is_number_below vs S Q → vs.length = 2 := by rintro _ S Q ⟨p, m, rfl, _⟩; rfl
theorem below_int (i m : Int) : below (.int i) m = (decide (0 ≤ i) && decide (i < m)) := rfl
theorem below_true {p : PV} {m : Int} (h : below p m = true) : ∃ i, p = .int i := by cases p <;> first | exact ⟨_, rfl⟩ | exact Bool.noConfusion h
/-- 0 <= x < m of an int -/
theorem chain_int {f g h : WE} {fr : Fr} {S : Sto} {Q : Post} {i m : Int} (hf : ∀ Q' : Post, Q' (.int 0) S → f fr S Q') (hg : ∀ Q' : Post, Q' (.int i) S → g fr S Q') (hh : ∀ Q' : Post, Q' (.int m) S → h fr S Q') (q : Q (.bl (below (.int i) m)) S) : wChain bLe bLt f g h fr S Q := by
  refine hf _ (hg _ ⟨_, rfl, ?_⟩)
  rw [below_int] at q
  by_cases h0 : 0 ≤ i
  · rw [decide_eq_true h0] at q ⊢
    refine iteT (hh _ ?_)
    rw [Bool.true_and] at q
    exact q
  · rw [decide_eq_false h0] at q ⊢
    exact iteF q
theorem rd11_is_number_below : ∀ vs S Q, sp11_is_number_below vs S Q → w11_is_number_below sp11_is_whole { nx := fun _ S' => Q .non S', rt := Q } (startP N11_is_number_below vs) S := by
  rintro _ S Q ⟨p, m, rfl, hp, q⟩
  refine ⟨p, rfl, p, rfl, hp, _, rfl, ?_⟩
  cases p <;> first
    | exact iteF q
    | exact iteT (chain_int (fun _ h => h) (fun _ h => ⟨_, rfl, h⟩) (fun _ h => ⟨_, rfl, h⟩) q)
def goB (n last : Int) : List PV → Bool
  | [] => true
  | x :: r => below x n && (match x with | .int i => decide (last < i) && goB n i r | _ => false)
def setB (n : Int) : PV → Bool
  | .tup xs => goB n (-1) xs
  | _ => false
def sp11_is_set : PSp := fun vs S Q => ∃ p n, vs = [.int n, p] ∧ Pl S p ∧ Q (.bl (setB n p)) S
theorem len11_is_set : ∀ vs S Q, sp11_is_set vs S Q → vs.length = 2 := by rintro _ S Q ⟨p, m, rfl, _⟩; rfl
theorem rd11_is_set : ∀ vs S Q, sp11_is_set vs S Q → w11_is_set sp11_is_number_below { nx := fun _ S' => Q .non S', rt := Q } (startP N11_is_set vs) S := by
  rintro _ S Q ⟨p, n, rfl, hp, q⟩
  obtain ⟨k, h1, _, _, h4⟩ := kind_of hp
  refine ⟨p, rfl, k, _, h1, h4, _, rfl, ?_⟩
  cases p with
  | tup xs =>
    refine iteF ?_
    obtain ⟨d, hd⟩ := hp
    cases hd with
    | tup hs =>
      have loop : ∀ (ys : List PV) (last : Int) (o : Option PV), (∀ y ∈ ys, Pl S y) → Q (.bl (goB n last ys)) S →
          runIts (pName 3) (wSeq (wIfS (wOrT (wNotT (wTru (wCall sp11_is_number_below (wCons (wVar 3) (wCons (wVar 0) wNil))))) (wB (wOp bLe (wVar 3) (wVar 2)))) (wRet (wC (.bl false))) wNext)
    (wAsg (wVar 3) (pName 2))) ys { nx := (wRet (wC (.bl true))) { nx := fun _ S' => Q .non S', rt := Q }, rt := Q } [some (.int n), some (.tup xs), some (.int last), o] S := by
        intro ys
        induction ys with
        | nil => intro last o _ q; exact q
        | cons y ys ih =>
          intro last o hy q
          refine ⟨_, rfl, _, rfl, y, n, rfl, hy y List.mem_cons_self, _, rfl, ?_⟩
          cases hb : below y n with
          | false =>
            refine iteT (iteT ?_)
            unfold goB at q
            rw [hb] at q
            exact q
          | true =>
            refine iteF ?_
            obtain ⟨i, rfl⟩ := below_true hb
            refine ⟨_, rfl, _, rfl, _, rfl, ?_⟩
            have q' : Q (.bl (decide (last < i) && goB n i ys)) S := by
              unfold goB at q
              rw [hb, Bool.true_and] at q
              exact q
            by_cases hl : i ≤ last
            · rw [decide_eq_true hl]
              refine iteT ?_
              rw [decide_eq_false (by omega), Bool.false_and] at q'
              exact q'
            · rw [decide_eq_false hl]
              refine iteF ⟨_, rfl, ?_⟩
              rw [decide_eq_true (by omega), Bool.true_and] at q'
              exact ih i _ (fun z hz => hy z (List.mem_cons_of_mem _ hz)) q'
      exact ⟨_, rfl, loop xs (-1) none (fun y hy => hs.mem y hy) q⟩
  | _ => exact iteT q

/-! ### is_tuple_of, can_follow, is_family -/
theorem cutP_take (xs : List PV) (i : Nat) (h : i ≤ xs.length) : cutP xs none (some (i : Nat)) = xs.take i := by
  unfold cutP
  have e1 : HT.sIx xs.length 0 none = 0 := rfl
  have e2 : HT.sIx xs.length xs.length (some ((i : Nat) : Int)) = i := by
    have h0 : ¬ ((i : Int) < 0) := by omega
    unfold HT.sIx
    simp [h0]
    omega
  rw [e1, e2, List.drop_zero, Nat.sub_zero]
end M

/-! Families as data: their texts, their likeness; what is told of a family and of its other one. -/
namespace M
open PySem L2
variable [Tabs]
theorem eqv_ints : ∀ a b : List Int, PyData.eqvAll (dts a) (dts b) = decide (a = b)
  | [], [] => rfl
  | [], _ :: _ => rfl
  | _ :: _, [] => rfl
  | x :: a, y :: b => by
    show (PyData.eqv (.int x) (.int y) && PyData.eqvAll (dts a) (dts b)) = _
    rw [eqv_ints a b]
    show ((x == y) && _) = _
    by_cases h1 : x = y <;> by_cases h2 : a = b <;> simp [h1, h2]
def fd (n : Nat) (cs : List Nat) : PyData := .tuple [.int (n : Nat), .tuple ((fam cs).map fun r => PyData.tuple (dts r))]
/-! ### what a family holds tells it -/
def ups (n : Nat) (F : List Nat) : List Nat := (List.range (2 ^ n)).filter (hold F)
theorem fam_ups {n : Nat} {cs : List Nat} (hn : n ≤ 8) (hc : ∀ c ∈ cs, c < 2 ^ n) : fam (ups n (fcs cs)) = fam cs := by
  have hp2 : 2 ^ n ≤ 256 := Nat.pow_le_pow_right (n := 2) (by decide) hn
  have hc2 : ∀ c ∈ cs, c < 256 := fun c h => Nat.lt_of_lt_of_le (hc c h) hp2
  have mf : ∀ {c}, c ∈ cs → (∀ o ∈ cs, o &&& c = o → o = c) → c ∈ fcs cs := fun {c} h1 h2 => List.mem_map.mpr ⟨bset 8 c, fam_mem.mpr ⟨c, h1, h2, rfl⟩, code_b8 (hc2 c h1)⟩
  have fm : ∀ {c}, c ∈ fcs cs → c ∈ cs ∧ ∀ o ∈ cs, o &&& c = o → o = c := fun {c} h => by
    obtain ⟨r, h1, rfl⟩ := List.mem_map.mp h
    obtain ⟨d, h2, h3, rfl⟩ := fam_mem.mp h1
    rw [code_b8 (hc2 d h2)]
    exact ⟨h2, h3⟩
  have up : ∀ {c}, c ∈ fcs cs → c ∈ ups n (fcs cs) := fun {c} h => List.mem_filter.mpr ⟨List.mem_range.mpr (hc c (fm h).1), hold_iff.mpr ⟨c, h, Nat.and_self c⟩⟩
  refine (fam_eq (fam_srt cs) fun r => ⟨fun h => ?_, ?_⟩).symm
  · obtain ⟨c, h1, h2, rfl⟩ := fam_mem.mp h
    refine ⟨c, up (mf h1 h2), fun o ho e => ?_, rfl⟩
    obtain ⟨a, ha, hs⟩ := hold_iff.mp (List.mem_filter.mp ho).2
    have := h2 a (fm ha).1 (and_trans hs e)
    subst this
    rw [Nat.and_comm] at hs
    rw [← e, hs]
  · rintro ⟨c, h1, h2, rfl⟩
    obtain ⟨a, ha, hs⟩ := hold_iff.mp (List.mem_filter.mp h1).2
    have := h2 a (up ha) hs
    subst this
    exact fam_mem.mpr ⟨a, (fm ha).1, (fm ha).2, rfl⟩
def hb (n : Nat) (F : List Nat) : List Bool := (List.range (2 ^ n)).map (hold F)
theorem told_eq {n : Nat} {cs ds : List Nat} (hn : n ≤ 8) (hc : ∀ c ∈ cs, c < 2 ^ n) (hd : ∀ c ∈ ds, c < 2 ^ n) : (hb n (fcs cs) = hb n (fcs ds)) ↔ fam cs = fam ds := by
  constructor
  · intro h
    rw [← fam_ups hn hc, ← fam_ups hn hd]
    congr 1
    unfold ups
    refine List.filter_congr fun c hc => ?_
    exact (List.map_inj_left.mp h) c hc
  · intro h
    unfold fcs
    rw [h]
/-! ### codes of a family -/
/-! ### families told anew -/
theorem p256 {n : Nat} (hn : n ≤ 8) : 2 ^ n ≤ 256 := Nat.pow_le_pow_right (n := 2) (by decide) hn
theorem lt256 {n : Nat} {cs : List Nat} (hn : n ≤ 8) (hc : ∀ c ∈ cs, c < 2 ^ n) : ∀ c ∈ cs, c < 256 := fun c h => Nat.lt_of_lt_of_le (hc c h) (p256 hn)
theorem mem_fcs {cs : List Nat} (hc : ∀ c ∈ cs, c < 256) {c : Nat} : c ∈ fcs cs ↔ c ∈ cs ∧ ∀ o ∈ cs, o &&& c = o → o = c := by
  constructor
  · intro h
    obtain ⟨r, h1, rfl⟩ := List.mem_map.mp h
    obtain ⟨d, h2, h3, rfl⟩ := fam_mem.mp h1
    rw [code_b8 (hc d h2)]
    exact ⟨h2, h3⟩
  · rintro ⟨h1, h2⟩
    exact List.mem_map.mpr ⟨bset 8 c, fam_mem.mpr ⟨c, h1, h2, rfl⟩, code_b8 (hc c h1)⟩
theorem fcs_lt {n : Nat} {cs : List Nat} (hn : n ≤ 8) (hc : ∀ c ∈ cs, c < 2 ^ n) : ∀ c ∈ fcs cs, c < 2 ^ n := fun c h => hc c ((mem_fcs (lt256 hn hc)).mp h).1
/-! ### a family is one -/
/-- two statements one behind the other, by what holds between them -/
theorem join {f g : WS} {D : PD} {fr : Fr} {S : Sto} (I : Fr → Sto → Prop) (hf : ∀ N : Fr → Sto → Prop, (∀ fr S, I fr S → N fr S) → f { D with nx := N } fr S) (hg : ∀ fr S, I fr S → g D fr S) : wSeq f g D fr S := hf (g D) hg
theorem sz {k : Nat} (h : k ≤ 1000) : k ≤ sizeLine := Nat.le_trans h (by decide)
end M

/-! Statements, read one by one: what is left keeps its shape. -/
namespace M
open PySem L2
variable [Tabs]
section
variable {f : WE} {c : WT} {a b g : WS} {D : PD} {fr : Fr} {S : Sto} {i : Nat}
theorem sa (h : f fr S fun x S1 => g D (fr.set i (some x)) S1) : wSeq (wAsg f (pName i)) g D fr S := h
theorem sd (h : f fr S fun _ S1 => g D fr S1) : wSeq (wDrop f) g D fr S := h
/-- if ..: return .. -/
theorem sret (h : c fr S fun k S1 => if k = true then f fr S1 D.rt else g D fr S1) : wSeq (wIfS c (wRet f) wNext) g D fr S := h
theorem sret1 (h : c fr S fun k S1 => if k = true then f fr S1 D.rt else D.nx fr S1) : wIfS c (wRet f) wNext D fr S := h
theorem sfor {wi : WI} {tg : WG} (h : wi fr S fun it S1 => match it with | .its xs => runIts tg b xs { D with nx := g D } fr S1 | .lst n => ∃ xs, SL S1 n xs ∧ runLst tg b n xs xs { D with nx := g D } fr S1) : wSeq (wFor wi tg b) g D fr S := h
theorem its_by (I : List PV → Fr → Sto → Prop) (fin : ∀ fr S, I [] fr S → D.nx fr S)
    (step : ∀ (x : PV) (r : List PV) (fr : Fr) (S : Sto) (K : Fr → Sto → Prop), (∀ fr S, I r fr S → K fr S) → I (x :: r) fr S → b ⟨K, D.rt, D.nx, K⟩ (fr.set i (some x)) S) {xs : List PV} {fr : Fr} {S : Sto} (h : I xs fr S) : runIts (pName i) b xs D fr S := runIts_by I fin step xs fr S h
end
end M

/-! The tape from which the laws of the second stage draw; families by their codes. -/
namespace M
open PySem L2
variable [Tabs]
section
variable {f fo fi fv : WE} {c : WT} {a b g : WS} {D : PD} {fr : Fr} {S : Sto}
theorem sifn (h : c fr S fun k S1 => if k = true then a { D with nx := g D } fr S1 else g D fr S1) : wSeq (wIfS c a wNext) g D fr S := h
end
structure Tape (S : Sto) (m T : Nat) : Prop where
  ex : ∃ (c : Nat) (a l : Int) (ns : List Int), S[m]? = some (.lst [.ref c, .int a, .int l]) ∧ S[c]? = some (.lst (ns.map PV.int)) ∧ ns.length ≤ 63 ∧ 0 ≤ a ∧ a ≤ T ∧ 0 ≤ l ∧ c < m
theorem Tape.lt {S : Sto} {m T : Nat} (f : Tape S m T) : m < S.length := by
  obtain ⟨c, a, l, ns, h1, _⟩ := f.ex
  exact (List.getElem?_eq_some_iff.mp h1).1
theorem Tape.mono {S : Sto} {m T T' : Nat} (f : Tape S m T) (h : T ≤ T') : Tape S m T' := by
  obtain ⟨c, a, l, ns, h1, h2, h3, h4, h5, h6⟩ := f.ex
  exact ⟨c, a, l, ns, h1, h2, h3, h4, by omega, h6⟩
theorem Tape.ext {S S' : Sto} {m T : Nat} (f : Tape S m T) (x : Ext S S') : Tape S' m T := by
  obtain ⟨c, a, l, ns, h1, h2, r⟩ := f.ex
  exact ⟨c, a, l, ns, x.keep _ _ h1, x.keep _ _ h2, r⟩
theorem Tape.app {S : Sto} {m T : Nat} (f : Tape S m T) (X : Sto) : Tape (S ++ X) m T := f.ext (Ext.app S X)
theorem Tape.setN {m p T : Nat} {S : Sto} (F : Tape S m T) (h : m < p) (o : MO) : Tape (S.set p o) m T := by
  obtain ⟨c, a, l, ns, h1, h2, h3, h4, h5, h6, h7⟩ := F.ex
  exact ⟨c, a, l, ns, by rw [List.getElem?_set_ne (by omega)]; exact h1, by rw [List.getElem?_set_ne (by omega)]; exact h2, h3, h4, h5, h6, h7⟩
/-! ### a draw -/
end M

/-! How the second stage's laws make families. -/
namespace M
open PySem L2
variable [Tabs]
/-- codes of which none is within another one -/
structure Anti (cs : List Nat) : Prop where
  nd : cs.Nodup
  an : ∀ a ∈ cs, ∀ b ∈ cs, a &&& b = a → a = b
theorem Anti.sub {cs ds : List Nat} (A : Anti cs) (h : ds.Sublist cs) : Anti ds := ⟨A.nd.sublist h, fun a ha b hb => A.an a (h.subset ha) b (h.subset hb)⟩
theorem Anti.filter {cs : List Nat} (A : Anti cs) (p : Nat → Bool) : Anti (cs.filter p) := A.sub List.filter_sublist
/-! ### _law_set, _law_size -/
/-! ### _law_least -/
/-! ### _law_family -/
/-! ### _law_n -/
/-! ### _law_members -/
/-! ### without_place, kept_at -/
end M

/-! Small ones: places left out and places kept, told by codes. -/
namespace M
open PySem L2
variable [Tabs]
/-- the code that has the places below n at which f is true -/
def mk : Nat → (Nat → Bool) → Nat
  | 0, _ => 0
  | n + 1, f => mk n f + if f n = true then 2 ^ n else 0
/-! ### small_one -/
/-! ### numbers drawn, one for each place -/
theorem Tape.ne {S : Sto} {m T w : Nat} {ws : List Nat} (F : Tape S m T) (h : S[w]? = some (.lst (cv ws))) : w ≠ m := by
  rintro rfl
  obtain ⟨c, a, l, ns, h1, _⟩ := F.ex
  rw [h1] at h
  injection h with h
  injection h with h
  cases ws with
  | nil => exact nomatch h
  | cons w ws => exact nomatch (List.cons.inj h).1
end M

/-! Families by what they hold: the other one, small ones, narrowed ones. -/
namespace M
open PySem L2
variable [Tabs]
theorem sub_bits {a x : Nat} : a &&& x = a ↔ ∀ i, a.testBit i = true → x.testBit i = true := by
  constructor
  · intro h i hi
    rw [← h, Nat.testBit_and, Bool.and_eq_true] at hi
    exact hi.2
  · intro h
    apply Nat.eq_of_testBit_eq
    intro i
    rw [Nat.testBit_and]
    cases ha : a.testBit i with
    | false => rfl
    | true => rw [h i ha]; rfl
theorem fcs_below {cs : List Nat} (hc : ∀ c ∈ cs, c < 256) : ∀ c ∈ cs, ∃ d ∈ fcs cs, d &&& c = d := fun c h => by
  have key : ∀ k c, c ≤ k → c ∈ cs → ∃ d ∈ fcs cs, d &&& c = d := fun k => by
    induction k with
    | zero =>
      intro c hk h
      refine ⟨c, (mem_fcs hc).mpr ⟨h, fun o ho eo => ?_⟩, Nat.and_self c⟩
      have : o ≤ c := by rw [← eo]; exact Nat.and_le_right
      omega
    | succ k ih =>
      intro c hk h
      by_cases hm : ∀ o ∈ cs, o &&& c = o → o = c
      · exact ⟨c, (mem_fcs hc).mpr ⟨h, hm⟩, Nat.and_self c⟩
      · obtain ⟨o, hh⟩ := Classical.not_forall.mp hm
        obtain ⟨ho, hh⟩ := Classical.not_imp.mp hh
        obtain ⟨eo, ne⟩ := Classical.not_imp.mp hh
        have : o ≤ c := by rw [← eo]; exact Nat.and_le_right
        obtain ⟨d, d1, d2⟩ := ih o (by omega) ho
        exact ⟨d, d1, and_trans d2 eo⟩
  exact key c c (Nat.le_refl _) h
theorem hold_fcs {cs : List Nat} (hc : ∀ c ∈ cs, c < 256) (x : Nat) : hold (fcs cs) x = hold cs x := by
  rw [Bool.eq_iff_iff, hold_iff, hold_iff]
  constructor
  · rintro ⟨a, h, e⟩; exact ⟨a, ((mem_fcs hc).mp h).1, e⟩
  · rintro ⟨a, h, e⟩
    obtain ⟨d, d1, d2⟩ := fcs_below hc a h
    exact ⟨d, d1, and_trans d2 e⟩
theorem fam_hold {n : Nat} {cs ds : List Nat} (hn : n ≤ 8) (hc : ∀ c ∈ cs, c < 2 ^ n) (hd : ∀ c ∈ ds, c < 2 ^ n) (h : ∀ x, x < 2 ^ n → hold cs x = hold ds x) : fam cs = fam ds := by
  refine (told_eq hn hc hd).mp ?_
  unfold hb
  refine List.map_congr_left fun x hx => ?_
  rw [hold_fcs (lt256 hn hc), hold_fcs (lt256 hn hd)]
  exact h x (List.mem_range.mp hx)
/-- what the other family holds -/
theorem hold_mts {n x : Nat} {cs : List Nat} (hn : n ≤ 8) (hc : ∀ c ∈ cs, c < 2 ^ n) (hx : x < 2 ^ n) : hold (mts n (fcs cs)) x = !hold cs (comp n x) := by
  have e : hold (mts n (fcs cs)) x = meet (fcs cs) x := by
    rw [Bool.eq_iff_iff, hold_iff]
    constructor
    · rintro ⟨a, h, e⟩
      exact meet_mono e (List.mem_filter.mp h).2
    · intro h
      exact ⟨x, List.mem_filter.mpr ⟨List.mem_range.mpr hx, h⟩, Nat.and_self x⟩
  rw [e]
  have := meet_comp (n := n) (x := comp n x) (fcs_lt hn hc)
  rw [comp_comp] at this
  rw [this, hold_fcs (lt256 hn hc)]
/-! ### narrowed -/
def pls (P : Nat) : List Nat := (List.range 8).filter fun p => P.testBit p
def pat (P j : Nat) : Nat := (pls P).getD j 0
/-- a code by P's places, counted from 0, and back -/
def rel (P c : Nat) : Nat := mk (pls P).length fun j => c.testBit (pat P j)
def ext (P y : Nat) : Nat := mk 8 fun i => (List.range (pls P).length).any fun j => y.testBit j && decide (pat P j = i)
/-! ### called_by -/
/-! ### narrowed -/
end M

/-! Families put together, and with one place more: by codes, and what they hold. -/
namespace M
open PySem L2
variable [Tabs]
/-! ### by what they hold -/
def dx (n p x : Nat) : Nat := mk n fun i => x.testBit i || (decide (p = i) && x.testBit n)
def sx (n p x : Nat) : Nat := mk n fun i => x.testBit i && (!decide (p = i) || x.testBit n)
/-! ### where the codes lie -/
/-! ### the others -/
/-! ### the least ones alone tell -/
/-! ### none within another one -/
theorem bit_lt {n c i : Nat} (hc : c < 2 ^ n) (h : c.testBit i = true) : i < n := by
  by_cases g : i < n
  · exact g
  · rw [bit_out hc (by omega)] at h; cases h
end M

/-! beside, crossed, doubled, spread, read. -/
namespace M
open PySem L2
variable [Tabs]
end M

/-! How the laws of the third stage draw. -/
namespace M
open PySem L2
variable [Tabs]
end M

/-! The least ones of SETs, as the laws of the third stage tell them. -/
namespace M
open PySem L2
variable [Tabs]
end M

/-! How the laws of the third stage make families. -/
namespace M
open PySem L2
variable [Tabs]
end M

/-! does_part, and what the laws of the third stage ask beside it. -/
namespace M
open PySem L2
variable [Tabs]
/-! ### does_part -/
/-! ### _law_n -/
end M

/-! What meets all members, told for every code; the members' codes of two families. -/
namespace M
open PySem L2
variable [Tabs]
/-! ### _law_met -/
end M

/-! The other family, as the laws of the third stage tell it. -/
namespace M
open PySem L2
variable [Tabs]
def fewer (F : List Nat) (c : Nat) : List Int := (bset 8 c).filter fun p => meet F (c - 2 ^ p.toNat)
def gd (F : List Nat) (c : Nat) : Bool := meet F c && (fewer F c).isEmpty
end M

/-! Greater families, families near one another, the codes of two families' members. -/
namespace M
open PySem L2
variable [Tabs]
/-! ### _law_codes -/
/-! ### _law_great -/
end M

/-! A family near another one. -/
namespace M
open PySem L2
variable [Tabs]
end M

/-! Two families that are each other's, by what they hold; a list of picks of the reel. -/
namespace M
open PySem L2
variable [Tabs]
/-- each other's -/
structure Du (n : Nat) (cs ds : List Nat) : Prop where
  c : ∀ c ∈ cs, c < 2 ^ n
  d : ∀ d ∈ ds, d < 2 ^ n
  h : ∀ x, x < 2 ^ n → hold ds x = !hold cs (comp n x)
theorem Du.symm {n : Nat} {cs ds : List Nat} (D : Du n cs ds) : Du n ds cs := ⟨D.d, D.c, fun x hx => by
  rw [D.h _ (comp_lt hx), comp_comp, Bool.not_not]⟩
theorem Du.fam {n : Nat} {cs ds : List Nat} (hn : n ≤ 8) (D : Du n cs ds) : fam ds = fam (mts n (fcs cs)) :=
  fam_hold hn D.d mts_lt fun x hx => by rw [D.h x hx, hold_mts hn D.c hx]
theorem Du.of {n : Nat} {cs : List Nat} (hn : n ≤ 8) (hc : ∀ c ∈ cs, c < 2 ^ n) : Du n cs (mts n (fcs cs)) := ⟨hc, mts_lt, fun x hx => hold_mts hn hc hx⟩
theorem Du.fcs {n : Nat} {cs ds : List Nat} (hn : n ≤ 8) (D : Du n cs ds) : Du n (fcs cs) (fcs ds) :=
  ⟨fcs_lt hn D.c, fcs_lt hn D.d, fun x hx => by rw [hold_fcs (lt256 hn D.d), hold_fcs (lt256 hn D.c), D.h x hx]⟩
end M

/-! beside, crossed, doubled, spread where there may be too many places: then they raise. -/
namespace M
open PySem L2
variable [Tabs]
/-! ### what is made of it where it is caught -/
end M

/-! numbers_within, tree_for and dual_told: a tree for each other's, a SET that parts the others. -/
namespace M
open PySem L2
variable [Tabs]
/-! ### numbers_within -/
/-! ### tree_for -/
/-! ### dual_told -/
end M

/-! The tree that dual_told gives, and the SET that parts. -/
namespace M
open PySem L2
variable [Tabs]
inductive Tr where
  | one (k : Nat)
  | other (k : Nat)
  | split (p : Nat) (a b : Tr)
def Tr.v : Tr → PV
  | .one k => .tup [.str (Str.ofString "one"), .int (k : Nat)]
  | .other k => .tup [.str (Str.ofString "other"), .int (k : Nat)]
  | .split p a b => .tup [.str (Str.ofString "split"), .int (p : Nat), a.v, b.v]
/-- a right tree, where the first d places are shared out, t of them taken -/
def GT (F G : List Nat) (n : Nat) : Nat → Nat → Tr → Prop
  | d, t, .one k => ∃ a, F[k]? = some a ∧ a &&& t = a
  | d, t, .other k => ∃ a, G[k]? = some a ∧ a &&& comp d t = a
  | d, t, .split p a b => p = d ∧ d < n ∧ GT F G n (d + 1) (t + 2 ^ d) a ∧ GT F G n (d + 1) t b
end M

/-! How the last laws draw, and the families that they draw. -/
namespace M
open PySem L2
variable [Tabs]
structure Tapf (S : Sto) (m T : Nat) : Prop where
  ex : ∃ (c : Nat) (a l : Int) (ns : List Int), S[m]? = some (.lst [.ref c, .int a, .int l, .int 0]) ∧ S[c]? = some (.lst (ns.map PV.int)) ∧ ns.length ≤ 63 ∧ 0 ≤ a ∧ a ≤ T ∧ 0 ≤ l ∧ c < m
theorem Tapf.lt {S : Sto} {m T : Nat} (f : Tapf S m T) : m < S.length := by
  obtain ⟨c, a, l, ns, h1, _⟩ := f.ex
  exact (List.getElem?_eq_some_iff.mp h1).1
theorem Tapf.mono {S : Sto} {m T T' : Nat} (f : Tapf S m T) (h : T ≤ T') : Tapf S m T' := by
  obtain ⟨c, a, l, ns, h1, h2, h3, h4, h5, h6⟩ := f.ex
  exact ⟨c, a, l, ns, h1, h2, h3, h4, by omega, h6⟩
theorem Tapf.ext {S S' : Sto} {m T : Nat} (f : Tapf S m T) (x : Ext S S') : Tapf S' m T := by
  obtain ⟨c, a, l, ns, h1, h2, r⟩ := f.ex
  exact ⟨c, a, l, ns, x.keep _ _ h1, x.keep _ _ h2, r⟩
theorem Tapf.app {S : Sto} {m T : Nat} (f : Tapf S m T) (X : Sto) : Tapf (S ++ X) m T := f.ext (Ext.app S X)
theorem Tapf.setN {m p T : Nat} {S : Sto} (F : Tapf S m T) (h : m < p) (o : MO) : Tapf (S.set p o) m T := by
  obtain ⟨c, a, l, ns, h1, h2, h3, h4, h5, h6, h7⟩ := F.ex
  exact ⟨c, a, l, ns, by rw [List.getElem?_set_ne (by omega)]; exact h1, by rw [List.getElem?_set_ne (by omega)]; exact h2, h3, h4, h5, h6, h7⟩
theorem Tapf.ne {S : Sto} {m T w : Nat} {ws : List Nat} (F : Tapf S m T) (h : S[w]? = some (.lst (cv ws))) : w ≠ m := by
  rintro rfl
  obtain ⟨c, a, l, ns, h1, _⟩ := F.ex
  rw [h1] at h
  injection h with h
  injection h with h
  cases ws with
  | nil => exact nomatch h
  | cons w ws => exact nomatch (List.cons.inj h).1
end M

/-! Codes and families of the last laws. -/
namespace M
open PySem L2
variable [Tabs]
end M

/-! A drawn family of the last laws. -/
namespace M
open PySem L2
variable [Tabs]
theorem Tapf.ne2 {S : Sto} {m T w : Nat} {a b : PV} (F : Tapf S m T) (h : S[w]? = some (.lst [a, b])) : w ≠ m := by
  rintro rfl
  obtain ⟨c, x, l, ns, h1, _⟩ := F.ex
  rw [h1] at h
  injection h with h
  injection h with h
  injection h with _ h
  injection h with _ h
  exact nomatch h
end M


/-! Two families that are written alike are alike. -/
namespace M
open PySem L2
variable [Tabs]
/-- a text without its commas and blanks -/
def flt (s : Str) : List Nat := s.cps.toList.filter fun c => c != 44 && c != 32
end M

/-! lets_dual over any tree. -/
namespace LD
open PySem L2 M
variable [Tabs]
def sp_is_number_below : PSp := sp11_is_number_below
def td : Tr → PyData
  | .one k => .tuple [.str (Str.ofString "one"), .int (k : Nat)]
  | .other k => .tuple [.str (Str.ofString "other"), .int (k : Nat)]
  | .split p a b => .tuple [.str (Str.ofString "split"), .int (p : Nat), td a, td b]
/-- a tree that is accepted: at its top -/
def TopOk (n : Nat) (F G : List Nat) (t u : Nat) : Tr → Prop
  | .one k => ∃ a, F[k]? = some a ∧ a &&& t = a
  | .other k => ∃ a, G[k]? = some a ∧ a &&& u = a
  | .split p _ _ => p < n ∧ t.testBit p = false ∧ u.testBit p = false
/-- all of it -/
def Ok (n : Nat) (F G : List Nat) : Nat → Nat → Tr → Prop
  | t, u, .split p a b => (p < n ∧ t.testBit p = false ∧ u.testBit p = false) ∧ Ok n F G (t ||| 2 ^ p) u a ∧ Ok n F G t (u ||| 2 ^ p) b
  | t, _, .one k => ∃ a, F[k]? = some a ∧ a &&& t = a
  | _, u, .other k => ∃ a, G[k]? = some a ∧ a &&& u = a
theorem Ok.top {n : Nat} {F G : List Nat} {t u : Nat} : ∀ {T : Tr}, Ok n F G t u T → TopOk n F G t u T
  | .one _, h => h
  | .other _, h => h
  | .split _ _ _, h => h.1
/-! ### lets_dual -/
def tsz : Tr → Nat
  | .split _ a b => 1 + tsz a + tsz b
  | _ => 1
structure Wt where
  T : Tr
  t : Nat
  u : Nat
def Wt.v (w : Wt) : PV := .tup [w.T.v, sv w.t, sv w.u]
theorem or2_lt {n t p : Nat} (ht : t < 2 ^ n) (hp : p < n) : t ||| 2 ^ p < 2 ^ n := Nat.or_lt_two_pow ht (Nat.pow_lt_pow_right (by decide) hp)
theorem or2_bit (t p i : Nat) : (t ||| 2 ^ p).testBit i = (t.testBit i || decide (p = i)) := by rw [Nat.testBit_or, Nat.testBit_two_pow]
/-- the way that x takes through an accepted tree -/
theorem follow {n x : Nat} {F G : List Nat} : ∀ {t u : Nat} (T : Tr), Ok n F G t u T → u < 2 ^ n → (∀ i, t.testBit i = true → x.testBit i = true) → (∀ i, u.testBit i = true → x.testBit i = false) → hold F x = true ∨ hold G (comp n x) = true
  | _, _, .one k, ⟨a, ha, hat⟩, _, ht, _ => .inl (hold_iff.mpr ⟨a, List.mem_of_getElem? ha, sub_bits.mpr fun i hi => ht i (sub_bits.mp hat i hi)⟩)
  | _, _, .other k, ⟨a, ha, hat⟩, hu, _, hux => .inr (hold_iff.mpr ⟨a, List.mem_of_getElem? ha, sub_bits.mpr fun i hi => by
      have h1 := sub_bits.mp hat i hi
      rw [comp_bit, hux i h1, decide_eq_true (bit_lt hu h1)]; rfl⟩)
  | t, u, .split p a b, ⟨⟨hp, _, _⟩, ha, hb⟩, hu, ht, hux => by
    cases hxp : x.testBit p with
    | true => exact follow a ha hu (fun i hi => by
        rw [or2_bit, Bool.or_eq_true] at hi
        rcases hi with h | h
        · exact ht i h
        · rw [← of_decide_eq_true h]; exact hxp) hux
    | false => exact follow b hb (or2_lt hu hp) ht (fun i hi => by
        rw [or2_bit, Bool.or_eq_true] at hi
        rcases hi with h | h
        · exact hux i h
        · rw [← of_decide_eq_true h]; exact hxp)
/-- a right tree is accepted -/
theorem GT.ok {F G : List Nat} {n : Nat} : ∀ {d t : Nat} (T : Tr), GT F G n d t T → t < 2 ^ d → Ok n F G t (comp d t) T ∧ tsz T + 1 ≤ 2 ^ (n - d + 1)
  | d, t, .one k, h, _ => ⟨h, by have : 2 ^ 1 ≤ 2 ^ (n - d + 1) := Nat.pow_le_pow_right (by decide) (by omega); show 1 + 1 ≤ _; omega⟩
  | d, t, .other k, h, _ => ⟨h, by have : 2 ^ 1 ≤ 2 ^ (n - d + 1) := Nat.pow_le_pow_right (by decide) (by omega); show 1 + 1 ≤ _; omega⟩
  | d, t, .split p a b, ⟨hp, hd, ha, hb⟩, ht => by
    subst hp
    have pw : 2 ^ (p + 1) = 2 ^ p + 2 ^ p := by rw [Nat.pow_succ]; omega
    have e1 : t ||| 2 ^ p = t + 2 ^ p := by
      have := Nat.two_pow_add_eq_or_of_lt ht 1
      rw [Nat.mul_one] at this
      rw [Nat.or_comm, ← this, Nat.add_comm]
    have cb : ∀ x i, (comp p x).testBit i = (x.testBit i ^^ decide (i < p)) := fun x i => comp_bit p x i
    have tb : ∀ i, p ≤ i → t.testBit i = false := fun i hi => bit_out ht hi
    have e2 : comp (p + 1) (t + 2 ^ p) = comp p t := Nat.eq_of_testBit_eq fun i => by
      rw [comp_bit, comp_bit, ← e1, or2_bit]
      by_cases h1 : p = i
      · subst h1
        rw [decide_eq_true rfl, decide_eq_true (show p < p + 1 by omega), decide_eq_false (show ¬ p < p by omega), tb p (Nat.le_refl _)]; rfl
      · rw [decide_eq_false h1, Bool.or_false, show decide (i < p + 1) = decide (i < p) from decide_eq_decide.mpr (by omega)]
    have e3 : comp (p + 1) t = comp p t ||| 2 ^ p := Nat.eq_of_testBit_eq fun i => by
      rw [or2_bit, comp_bit, comp_bit]
      by_cases h1 : p = i
      · subst h1
        rw [decide_eq_true rfl, decide_eq_true (show p < p + 1 by omega), Bool.or_true, tb p (Nat.le_refl _)]; rfl
      · rw [decide_eq_false h1, Bool.or_false, show decide (i < p + 1) = decide (i < p) from decide_eq_decide.mpr (by omega)]
    obtain ⟨o1, z1⟩ := GT.ok a ha (by omega)
    obtain ⟨o2, z2⟩ := GT.ok b hb (by omega)
    rw [e2] at o1
    rw [e3] at o2
    refine ⟨⟨⟨hd, tb p (Nat.le_refl _), ?_⟩, ?_, o2⟩, ?_⟩
    · rw [comp_bit, tb p (Nat.le_refl _), decide_eq_false (show ¬ p < p by omega)]; rfl
    · rw [e1]; exact o1
    · have : 2 ^ (n - p + 1) = 2 ^ (n - (p + 1) + 1) + 2 ^ (n - (p + 1) + 1) := by rw [show n - p + 1 = (n - (p + 1) + 1) + 1 by omega, Nat.pow_succ]; omega
      show 1 + tsz a + tsz b + 1 ≤ _
      omega
/-- how many splits lie above one another -/
def ht : Tr → Nat
  | .split _ a b => 1 + max (ht a) (ht b)
  | _ => 0
def turn : Tr → Tr
  | .one k => .other k
  | .other k => .one k
  | .split p a b => .split p (turn b) (turn a)
theorem Ok.turn {n : Nat} {F G : List Nat} : ∀ {t u : Nat} (T : Tr), Ok n F G t u T → Ok n G F u t (turn T)
  | _, _, .one _, h => h
  | _, _, .other _, h => h
  | _, _, .split _ a b, ⟨⟨h1, h2, h3⟩, ha, hb⟩ => ⟨⟨h1, h3, h2⟩, Ok.turn b hb, Ok.turn a ha⟩
theorem GT.ht {F G : List Nat} {n : Nat} : ∀ {d t : Nat} (T : Tr), GT F G n d t T → ht T + d ≤ n ∨ ht T = 0
  | _, _, .one _, _ => .inr rfl
  | _, _, .other _, _ => .inr rfl
  | d, t, .split p a b, ⟨hp, hd, ha, hb⟩ => .inl (by
      have i1 := GT.ht a ha
      have i2 := GT.ht b hb
      show 1 + max (LD.ht a) (LD.ht b) + d ≤ n
      omega)
end LD

/-! lets_dual over ANY thing: what is no tree is refused. -/
namespace LA
open PySem L2 M
variable [Tabs]
def sp_is_number_below : PSp := sp11_is_number_below
/-- a thing that can be held against texts -/
def Th (S : Sto) (p : PV) : Prop := ∃ d, PDt S p d ∧ SeqAt.shaped d = true
theorem Th.pl {S : Sto} {p : PV} (h : Th S p) : Pl S p := let ⟨d, h, _⟩ := h; ⟨d, h⟩
theorem lay_mem : ∀ {ds : List PyData} {d : PyData}, d ∈ ds → (PyData.canLayAll0 ds = true → d.canLay0 = true) ∧ d.depth ≤ PyData.depthAll ds
  | x :: xs, d, h => by
    simp only [PyData.canLayAll0, PyData.depthAll, Bool.and_eq_true]
    rcases List.mem_cons.mp h with rfl | h
    · exact ⟨fun z => z.1, by omega⟩
    · have i := lay_mem h
      exact ⟨fun z => i.1 z.2, by omega⟩
theorem PDts.part {S : Sto} : ∀ {xs : List PV} {ds : List PyData}, PDts S xs ds → ∀ x ∈ xs, ∃ d ∈ ds, PDt S x d
  | _, _, .cons h t, x, hx => by
    rcases List.mem_cons.mp hx with rfl | hx
    · exact ⟨_, List.mem_cons_self, h⟩
    · obtain ⟨d, h1, h2⟩ := PDts.part t x hx
      exact ⟨d, List.mem_cons_of_mem _ h1, h2⟩
theorem Th.part {S : Sto} {xs : List PV} (h : Th S (.tup xs)) : ∀ x ∈ xs, Th S x := fun x hx => by
  obtain ⟨d, hd, sh⟩ := h
  cases hd with
  | @tup _ ds h =>
    obtain ⟨d, h1, h2⟩ := PDts.part h x hx
    refine ⟨d, h2, ?_⟩
    have c := SeqAt.canLay_of_shaped sh
    have dp := SeqAt.depth_of_shaped sh
    simp only [PyData.canLay0] at c
    simp only [PyData.depth] at dp
    have i := lay_mem h1
    unfold SeqAt.shaped
    rw [Bool.and_eq_true, decide_eq_true_eq]
    exact ⟨i.1 c, by omega⟩
theorem Th.mv {S S' : Sto} (x : Ext S S') {p : PV} (h : Th S p) : Th S' p := let ⟨d, h, s⟩ := h; ⟨d, h.mv fun m xs z => x.sl z, s⟩
/-- a thing headed by the word w, of m parts -/
def hd (w : Str) (m : Nat) : PV → Bool
  | .tup (.str s :: xs) => decide (xs.length + 1 = m) && decide (s = w)
  | _ => false
/-- accepted at its top -/
def TopP (n : Nat) (F G : List Nat) (t u : Nat) (p : PV) : Prop :=
  (∃ k a, p = .tup [.str (Str.ofString "one"), .int ((k : Nat) : Int)] ∧ F[k]? = some a ∧ a &&& t = a) ∨ (∃ k a, p = .tup [.str (Str.ofString "other"), .int ((k : Nat) : Int)] ∧ G[k]? = some a ∧ a &&& u = a) ∨
  ∃ (k : Nat) (x y : PV), p = .tup [.str (Str.ofString "split"), .int (k : Nat), x, y] ∧ k < n ∧ t.testBit k = false ∧ u.testBit k = false
mutual
def psz : PV → Nat
  | .tup xs => 1 + pszs xs
  | _ => 1
def pszs : List PV → Nat
  | [] => 0
  | x :: xs => psz x + pszs xs
end
structure Wt where
  T : PV
  t : Nat
  u : Nat
def Wt.v (w : Wt) : PV := .tup [w.T, sv w.t, sv w.u]
/-- a tree that is accepted -/
def OkP (n : Nat) (F G : List Nat) (t u : Nat) (p : PV) : Prop := ∃ T : Tr, p = T.v ∧ LD.Ok n F G t u T
theorem OkP.top {n : Nat} {F G : List Nat} {t u : Nat} {p : PV} (h : OkP n F G t u p) : TopP n F G t u p := by
  obtain ⟨T, rfl, ok⟩ := h
  cases T with
  | one k => obtain ⟨a, h1, h2⟩ := ok; exact .inl ⟨k, a, rfl, h1, h2⟩
  | other k => obtain ⟨a, h1, h2⟩ := ok; exact .inr (.inl ⟨k, a, rfl, h1, h2⟩)
  | split k a b => exact .inr (.inr ⟨k, a.v, b.v, rfl, ok.1⟩)
end LA

/-! The tape and the draw of k73 and its like. -/
namespace M
open PySem L2
variable [Tabs]
end M

/-! Any things that lie beside a tape, with a bound of what is in them (wt) and of how deep they are (hgt; a long number counts as deep, too). -/
namespace M
open PySem L2
variable [Tabs]
mutual
def wt : PyData → Nat
  | .none => 5
  | .bool _ => 5
  | .int i => i.natAbs.log2 + 3
  | .str x => 10 * x.length + 2
  | .list ds => wts ds + 3
  | .tuple ds => wts ds + 3
  | .dict _ => 0
def wts : List PyData → Nat
  | [] => 0
  | d :: ds => wt d + 2 + wts ds
end
mutual
def hgt : PyData → Nat
  | .none => 0
  | .bool _ => 0
  | .int i => i.natAbs.log2 / 40
  | .str _ => 0
  | .list ds => hgts ds + 1
  | .tuple ds => hgts ds + 1
  | .dict _ => 0
def hgts : List PyData → Nat
  | [] => 0
  | d :: ds => max (hgt d) (hgts ds)
end
def ascS (x : Str) : Bool := x.cps.toList.all fun c => decide (c < 128)
mutual
def asc : PyData → Bool
  | .none => true
  | .bool _ => true
  | .int _ => true
  | .str x => ascS x
  | .list ds => ascs ds
  | .tuple ds => ascs ds
  | .dict _ => false
def ascs : List PyData → Bool
  | [] => true
  | d :: ds => asc d && ascs ds
end
theorem repr_wt {x : Str} (h : ascS x = true) : (reprText x).length ≤ 10 * x.length + 2 := StrLaws.reprText_len x fun c hc => by
  have := of_decide_eq_true (List.all_eq_true.mp h c hc)
  exact Nat.lt_of_lt_of_le this (by decide)
theorem int_wt (i : Int) : (toString i : Str).length ≤ i.natAbs.log2 + 3 := by
  have h := int_text_length_le (a := i) (k := i.natAbs.log2 + 1) (by omega) (by omega)
  have e : (toString i : Str).length = (toString i : String).length := ofString_length _
  omega
mutual
theorem up_wt : ∀ d : PyData, asc d = true → up d ≤ wt d
  | .none, _ => by simp only [up, wt]; omega
  | .bool _, _ => by simp only [up, wt]; omega
  | .int i, _ => by simp only [up, wt]; exact int_wt i
  | .str x, h => by simp only [asc] at h; simp only [up, wt]; exact repr_wt h
  | .list ds, h => by simp only [asc] at h; simp only [up, wt]; have := ups_wt ds h; omega
  | .tuple ds, h => by simp only [asc] at h; simp only [up, wt]; have := ups_wt ds h; omega
  | .dict _, h => by simp only [asc] at h; cases h
theorem ups_wt : ∀ ds : List PyData, ascs ds = true → upAll ds ≤ wts ds
  | [], _ => by rw [upAll_nil]; omega
  | d :: ds, h => by
    simp only [ascs, Bool.and_eq_true] at h
    rw [upAll_cons]; simp only [wts]
    have := up_wt d h.1; have := ups_wt ds h.2; omega
end
mutual
theorem dp_hgt : ∀ d : PyData, asc d = true → d.depth ≤ hgt d
  | .none, _ => by simp only [PyData.depth]; omega
  | .bool _, _ => by simp only [PyData.depth]; omega
  | .int i, _ => by simp only [PyData.depth]; omega
  | .str x, h => by simp only [PyData.depth]; omega
  | .list ds, h => by simp only [asc] at h; simp only [PyData.depth, hgt]; have := dps_hgt ds h; omega
  | .tuple ds, h => by simp only [asc] at h; simp only [PyData.depth, hgt]; have := dps_hgt ds h; omega
  | .dict _, h => by simp only [asc] at h; cases h
theorem dps_hgt : ∀ ds : List PyData, ascs ds = true → PyData.depthAll ds ≤ hgts ds
  | [], _ => by simp only [PyData.depthAll]; omega
  | d :: ds, h => by
    simp only [ascs, Bool.and_eq_true] at h
    simp only [PyData.depthAll, hgts]
    have := dp_hgt d h.1; have := dps_hgt ds h.2; omega
end
mutual
theorem sh_hgt : ∀ d : PyData, asc d = true → hgt d ≤ 47 → d.showable = true
  | .none, _, _ => by simp only [PyData.showable]
  | .bool _, _, _ => by simp only [PyData.showable]
  | .int i, _, h => by simp only [hgt] at h; simp only [PyData.showable, decide_eq_true_eq]; omega
  | .str x, _, _ => by simp only [PyData.showable]
  | .list ds, h, k => by simp only [asc] at h; simp only [hgt] at k; simp only [PyData.showable]; exact shs_hgt ds h (by omega)
  | .tuple ds, h, k => by simp only [asc] at h; simp only [hgt] at k; simp only [PyData.showable]; exact shs_hgt ds h (by omega)
  | .dict _, h, _ => by simp only [asc] at h; cases h
theorem shs_hgt : ∀ ds : List PyData, ascs ds = true → hgts ds ≤ 47 → PyData.showableAll ds = true
  | [], _, _ => by simp only [PyData.showableAll]
  | d :: ds, h, k => by
    simp only [ascs, Bool.and_eq_true] at h
    simp only [hgts] at k
    simp only [PyData.showableAll, Bool.and_eq_true]
    exact ⟨sh_hgt d h.1 (by omega), shs_hgt ds h.2 (by omega)⟩
end
theorem strOk_asc {x : Str} (h : ascS x = true) : PyData.strOk x = true := by
  unfold PyData.strOk
  rw [← Array.all_toList]
  refine List.all_eq_true.mpr fun c hc => ?_
  have := of_decide_eq_true (List.all_eq_true.mp h c hc)
  exact decide_eq_true (by omega)
mutual
theorem lay_asc : ∀ d : PyData, asc d = true → d.canLay0 = true
  | .none, _ => by simp only [PyData.canLay0]
  | .bool _, _ => by simp only [PyData.canLay0]
  | .int i, _ => by simp only [PyData.canLay0]
  | .str x, h => by simp only [asc] at h; simp only [PyData.canLay0]; exact strOk_asc h
  | .list ds, h => by simp only [asc] at h; simp only [PyData.canLay0]; exact lays_asc ds h
  | .tuple ds, h => by simp only [asc] at h; simp only [PyData.canLay0]; exact lays_asc ds h
  | .dict _, h => by simp only [asc] at h; cases h
theorem lays_asc : ∀ ds : List PyData, ascs ds = true → PyData.canLayAll0 ds = true
  | [], _ => by simp only [PyData.canLayAll0]
  | d :: ds, h => by
    simp only [ascs, Bool.and_eq_true] at h
    simp only [PyData.canLayAll0, Bool.and_eq_true]
    exact ⟨lay_asc d h.1, lays_asc ds h.2⟩
end
structure SzD (B D : Nat) (d : PyData) : Prop where
  asc : asc d = true
  hgt : hgt d ≤ D
  wt : wt d ≤ B
structure SzDs (B D : Nat) (ds : List PyData) : Prop where
  asc : ascs ds = true
  hgt : hgts ds ≤ D
  wt : wts ds ≤ B
theorem SzD.mono {B B' D D' : Nat} {d : PyData} (h : SzD B D d) (hB : B ≤ B') (hD : D ≤ D') : SzD B' D' d := ⟨h.asc, Nat.le_trans h.hgt hD, Nat.le_trans h.wt hB⟩
theorem SzDs.mono {B B' D D' : Nat} {ds : List PyData} (h : SzDs B D ds) (hB : B ≤ B') (hD : D ≤ D') : SzDs B' D' ds := ⟨h.asc, Nat.le_trans h.hgt hD, Nat.le_trans h.wt hB⟩
theorem SzD.sm {B D : Nat} {d : PyData} (h : SzD B D d) (hD : D ≤ 47) : SmD B D d := ⟨sh_hgt d h.asc (Nat.le_trans h.hgt hD), Nat.le_trans (dp_hgt d h.asc) h.hgt, Nat.le_trans (up_wt d h.asc) h.wt⟩
theorem SzD.shaped {B D : Nat} {d : PyData} (h : SzD B D d) (hD : D ≤ 64) : SeqAt.shaped d = true := by
  unfold SeqAt.shaped
  rw [Bool.and_eq_true, decide_eq_true_eq]
  exact ⟨lay_asc d h.asc, Nat.le_trans (Nat.le_trans (dp_hgt d h.asc) h.hgt) hD⟩
theorem wts_append : ∀ xs ys : List PyData, wts (xs ++ ys) = wts xs + wts ys
  | [], ys => by simp only [List.nil_append, wts]; omega
  | x :: xs, ys => by simp only [List.cons_append, wts, wts_append xs ys]; omega
theorem hgts_append : ∀ xs ys : List PyData, hgts (xs ++ ys) = max (hgts xs) (hgts ys)
  | [], ys => by simp only [List.nil_append, hgts]; omega
  | x :: xs, ys => by simp only [List.cons_append, hgts, hgts_append xs ys]; omega
theorem ascs_append : ∀ xs ys : List PyData, ascs (xs ++ ys) = (ascs xs && ascs ys)
  | [], ys => by simp only [List.nil_append, ascs, Bool.true_and]
  | x :: xs, ys => by simp only [List.cons_append, ascs, ascs_append xs ys, Bool.and_assoc]
theorem SzDs.nil : SzDs 0 0 [] := ⟨rfl, Nat.le_refl _, Nat.le_refl _⟩
theorem SzDs.cons {B B' D : Nat} {d : PyData} {ds : List PyData} (h : SzD B D d) (t : SzDs B' D ds) : SzDs (B + 2 + B') D (d :: ds) :=
  ⟨by simp only [ascs, h.asc, t.asc, Bool.and_self], by simp only [hgts]; have := h.hgt; have := t.hgt; omega, by simp only [wts]; have := h.wt; have := t.wt; omega⟩
theorem SzDs.append {B B' D : Nat} {xs ys : List PyData} (h : SzDs B D xs) (t : SzDs B' D ys) : SzDs (B + B') D (xs ++ ys) :=
  ⟨by rw [ascs_append, h.asc, t.asc]; rfl, by rw [hgts_append]; have := h.hgt; have := t.hgt; omega, by rw [wts_append]; have := h.wt; have := t.wt; omega⟩
theorem SzDs.of_append {B D : Nat} {xs ys : List PyData} (h : SzDs B D (xs ++ ys)) : SzDs (wts xs) D xs ∧ SzDs (wts ys) D ys ∧ wts xs + wts ys ≤ B := by
  have h1 := h.asc
  rw [ascs_append, Bool.and_eq_true] at h1
  have h2 := h.hgt
  rw [hgts_append] at h2
  have h3 := h.wt
  rw [wts_append] at h3
  exact ⟨⟨h1.1, by omega, Nat.le_refl _⟩, ⟨h1.2, by omega, Nat.le_refl _⟩, h3⟩
theorem SzDs.split {B D : Nat} {ds : List PyData} (h : SzDs B D ds) (i : Nat) : SzDs (wts (ds.take i)) D (ds.take i) ∧ SzDs (wts (ds.drop i)) D (ds.drop i) ∧ wts (ds.take i) + wts (ds.drop i) ≤ B := SzDs.of_append (by rw [List.take_append_drop]; exact h)
theorem SzDs.take {B D : Nat} {ds : List PyData} (h : SzDs B D ds) (i : Nat) : SzDs B D (ds.take i) := (h.split i).1.mono (by have := (h.split i).2.2; omega) (Nat.le_refl _)
theorem SzDs.drop {B D : Nat} {ds : List PyData} (h : SzDs B D ds) (i : Nat) : SzDs B D (ds.drop i) := (h.split i).2.1.mono (by have := (h.split i).2.2; omega) (Nat.le_refl _)
theorem SzDs.rev {B D : Nat} {ds : List PyData} (h : SzDs B D ds) : SzDs B D ds.reverse := by
  have all : ∀ l : List PyData, ascs l.reverse = ascs l ∧ hgts l.reverse = hgts l ∧ wts l.reverse = wts l := by
    intro l
    induction l with
    | nil => exact ⟨rfl, rfl, rfl⟩
    | cons x l ih =>
      rw [List.reverse_cons, ascs_append, hgts_append, wts_append, ih.1, ih.2.1, ih.2.2]
      simp only [ascs, hgts, wts, Bool.and_true]
      exact ⟨Bool.and_comm _ _, by omega, by omega⟩
  exact ⟨by rw [(all ds).1]; exact h.asc, by rw [(all ds).2.1]; exact h.hgt, by rw [(all ds).2.2]; exact h.wt⟩
theorem SzD.tuple {B D : Nat} {ds : List PyData} (h : SzDs B D ds) : SzD (B + 3) (D + 1) (.tuple ds) := ⟨by simp only [M.asc]; exact h.asc, by simp only [M.hgt]; have := h.hgt; omega, by simp only [M.wt]; have := h.wt; omega⟩
theorem SzD.list {B D : Nat} {ds : List PyData} (h : SzDs B D ds) : SzD (B + 3) (D + 1) (.list ds) := ⟨by simp only [M.asc]; exact h.asc, by simp only [M.hgt]; have := h.hgt; omega, by simp only [M.wt]; have := h.wt; omega⟩
theorem SzDs.len {B D : Nat} {ds : List PyData} (h : SzDs B D ds) : 2 * ds.length ≤ B := by
  refine Nat.le_trans ?_ h.wt
  clear h
  induction ds with
  | nil => simp only [wts]; decide
  | cons d ds ih => simp only [wts, List.length_cons]; omega
theorem SzDs.mem {B D : Nat} : ∀ {ds : List PyData} {d : PyData}, SzDs B D ds → d ∈ ds → SzD B D d
  | x :: xs, d, h, hm => by
    have h1 := h.asc
    have h2 := h.hgt
    have h3 := h.wt
    simp only [ascs, Bool.and_eq_true] at h1
    simp only [hgts] at h2
    simp only [wts] at h3
    rcases List.mem_cons.mp hm with rfl | hm
    · exact ⟨h1.1, by omega, by omega⟩
    · exact SzDs.mem ⟨h1.2, by omega, by omega⟩ hm
/-! ### a store without its tape, and without lists that change -/
def hid (m : List Nat) (S : Sto) : Sto := m.foldr (fun n S => S.set n (.dct [])) S
theorem hid_get : ∀ (m : List Nat) (S : Sto) (k : Nat), k ∉ m → (hid m S)[k]? = S[k]?
  | [], _, _, _ => rfl
  | n :: m, S, k, h => by
    rw [List.mem_cons, not_or] at h
    show ((hid m S).set n (.dct []))[k]? = _
    rw [List.getElem?_set_ne (fun e => h.1 e.symm), hid_get m S k h.2]
theorem hid_no : ∀ (m : List Nat) (S : Sto) (k : Nat), k ∈ m → (hid m S)[k]? = some (.dct []) ∨ (hid m S)[k]? = none
  | n :: m, S, k, h => by
    show ((hid m S).set n (.dct []))[k]? = _ ∨ ((hid m S).set n (.dct []))[k]? = _
    by_cases e : n = k
    · subst e
      by_cases hl : n < (hid m S).length
      · rw [List.getElem?_set_self hl]; exact .inl rfl
      · rw [List.getElem?_eq_none (by rw [List.length_set]; omega)]; exact .inr rfl
    · rw [List.getElem?_set_ne e]
      rcases List.mem_cons.mp h with h | h
      · exact absurd h.symm e
      · exact hid_no m S k h
theorem hid_sl {m : List Nat} {S : Sto} {n : Nat} {xs : List PV} (h : SL (hid m S) n xs) : n ∉ m ∧ SL S n xs := by
  by_cases hn : n ∈ m
  · rcases hid_no m S n hn with e | e <;> rcases h with h | h <;> rw [e] at h <;> cases h
  · unfold SL at h
    rw [hid_get m S n hn] at h
    exact ⟨hn, h⟩
theorem sl_hid {m : List Nat} {S : Sto} {n : Nat} {xs : List PV} (hn : n ∉ m) (h : SL S n xs) : SL (hid m S) n xs := by
  unfold SL
  rw [hid_get m S n hn]
  exact h
/-- a store that grows, but for what may change -/
structure Gro (m : List Nat) (S S' : Sto) : Prop where
  keep : ∀ k o, k ∉ m → S[k]? = some o → S'[k]? = some o
  len : S.length ≤ S'.length
theorem Gro.refl (m : List Nat) (S : Sto) : Gro m S S := ⟨fun _ _ _ h => h, Nat.le_refl _⟩
theorem Gro.trans {m : List Nat} {S S1 S2 : Sto} (f : Gro m S S1) (g : Gro m S1 S2) : Gro m S S2 := ⟨fun k o h e => g.keep k o h (f.keep k o h e), Nat.le_trans f.len g.len⟩
theorem Grow.gro {n : Nat} {m : List Nat} {S S' : Sto} (g : Grow n S S') (h : n ∈ m) : Gro m S S' := ⟨fun k o hk e => g.keep k o (fun z => by subst z; exact hk h) e, g.len⟩
theorem Ext.gro {S S' : Sto} (x : Ext S S') (m : List Nat) : Gro m S S' := ⟨fun k o _ e => x.keep k o e, x.len⟩
theorem Gro.set {m : List Nat} {S S' : Sto} (g : Gro m S S') {n : Nat} (h : n ∈ m) (o : MO) : Gro m S (S'.set n o) := ⟨fun k u hk e => by rw [List.getElem?_set_ne (fun z => by subst z; exact hk h)]; exact g.keep k u hk e, by rw [List.length_set]; exact g.len⟩
theorem Gro.app {m : List Nat} {S S' : Sto} (g : Gro m S S') (X : Sto) : Gro m S (S' ++ X) := g.trans ((Ext.app S' X).gro m)
theorem hid_gro {m : List Nat} {S S' : Sto} (g : Gro m S S') : ∀ n xs, SL (hid m S) n xs → SL (hid m S') n xs := fun n xs h => by
  obtain ⟨h1, h2⟩ := hid_sl h
  refine sl_hid h1 ?_
  rcases h2 with h2 | h2
  · exact .inl (g.keep n _ h1 h2)
  · exact .inr (g.keep n _ h1 h2)
structure Tg (m : List Nat) (S : Sto) (p : PV) (B D : Nat) : Prop where
  ex : ∃ d, PDt (hid m S) p d ∧ SzD B D d
structure Tgs (m : List Nat) (S : Sto) (ps : List PV) (B D : Nat) : Prop where
  ex : ∃ ds, PDts (hid m S) ps ds ∧ SzDs B D ds
section
variable {m : List Nat} {S S' : Sto} {p : PV} {ps qs : List PV} {B B' D D' : Nat}
theorem Tg.up (h : Tg m S p B D) (hB : B ≤ B') (hD : D ≤ D') : Tg m S p B' D' := let ⟨d, a, s⟩ := h.ex; ⟨d, a, s.mono hB hD⟩
theorem Tgs.up (h : Tgs m S ps B D) (hB : B ≤ B') (hD : D ≤ D') : Tgs m S ps B' D' := let ⟨d, a, s⟩ := h.ex; ⟨d, a, s.mono hB hD⟩
theorem Tg.grow (h : Tg m S p B D) (g : Gro m S S') : Tg m S' p B D := let ⟨d, a, s⟩ := h.ex; ⟨d, a.mv (hid_gro g), s⟩
theorem Tgs.grow (h : Tgs m S ps B D) (g : Gro m S S') : Tgs m S' ps B D := let ⟨d, a, s⟩ := h.ex; ⟨d, a.mv (hid_gro g), s⟩
theorem Tg.app (h : Tg m S p B D) (X : Sto) : Tg m (S ++ X) p B D := h.grow ((Gro.refl m S).app X)
theorem Tgs.app (h : Tgs m S ps B D) (X : Sto) : Tgs m (S ++ X) ps B D := h.grow ((Gro.refl m S).app X)
theorem Tg.ext (h : Tg m S p B D) (x : Ext S S') : Tg m S' p B D := h.grow (x.gro m)
theorem Tgs.ext (h : Tgs m S ps B D) (x : Ext S S') : Tgs m S' ps B D := h.grow (x.gro m)
theorem Tg.fewer {m' : List Nat} (h : Tg m S p B D) (g : ∀ k ∈ m', k ∈ m) : Tg m' S p B D := let ⟨d, a, s⟩ := h.ex; ⟨d, a.mv fun n xs z => sl_hid (fun q => (hid_sl z).1 (g n q)) (hid_sl z).2, s⟩
theorem Tgs.fewer {m' : List Nat} (h : Tgs m S ps B D) (g : ∀ k ∈ m', k ∈ m) : Tgs m' S ps B D := let ⟨d, a, s⟩ := h.ex; ⟨d, a.mv fun n xs z => sl_hid (fun q => (hid_sl z).1 (g n q)) (hid_sl z).2, s⟩
theorem sl_lt {n : Nat} {xs : List PV} (h : SL S n xs) : n < S.length := h.elim lt_len lt_len
/-- nothing in it lies as late as n -/
theorem Tg.more (h : Tg m S p B D) (x : Ext S S') {n : Nat} (hn : S.length ≤ n) : Tg (n :: m) S' p B D := let ⟨d, a, s⟩ := h.ex; ⟨d, a.mv fun k xs z => by
  obtain ⟨h1, h2⟩ := hid_sl z
  have := sl_lt h2
  exact sl_hid (by rw [List.mem_cons, not_or]; exact ⟨by omega, h1⟩) (x.sl h2), s⟩
theorem Tgs.more (h : Tgs m S ps B D) (x : Ext S S') {n : Nat} (hn : S.length ≤ n) : Tgs (n :: m) S' ps B D := let ⟨d, a, s⟩ := h.ex; ⟨d, a.mv fun k xs z => by
  obtain ⟨h1, h2⟩ := hid_sl z
  have := sl_lt h2
  exact sl_hid (by rw [List.mem_cons, not_or]; exact ⟨by omega, h1⟩) (x.sl h2), s⟩
theorem Tg.dt (h : Tg m S p B D) : ∃ d, PDt S p d ∧ SzD B D d := let ⟨d, a, s⟩ := h.ex; ⟨d, a.mv fun n xs z => (hid_sl z).2, s⟩
theorem Tg.pl (h : Tg m S p B D) : Pl S p := let ⟨d, a, s⟩ := h.dt; ⟨d, a⟩
theorem Tg.th (h : Tg m S p B D) (hD : D ≤ 64) : LA.Th S p := let ⟨d, a, s⟩ := h.dt; ⟨d, a, s.shaped hD⟩
theorem Tg.non : Tg m S .non 5 0 := ⟨_, .non, by simp only [asc], by simp only [hgt]; omega, by simp only [wt]; omega⟩
theorem Tg.bl (b : Bool) : Tg m S (.bl b) 5 0 := ⟨_, .bl b, by simp only [asc], by simp only [hgt]; omega, by simp only [wt]; omega⟩
theorem Tg.int (i : Int) : Tg m S (.int i) (i.natAbs.log2 + 3) (i.natAbs.log2 / 40) := ⟨_, .int i, by simp only [asc], by simp only [hgt]; omega, by simp only [wt]; omega⟩
theorem Tg.str {x : Str} (h : ascS x = true) : Tg m S (.str x) (10 * x.length + 2) 0 := ⟨_, .str x, by simp only [asc]; exact h, by simp only [hgt]; omega, by simp only [wt]; omega⟩
theorem Tgs.nil : Tgs m S [] 0 0 := ⟨_, .nil, .nil⟩
theorem Tgs.cons (h : Tg m S p B D) (t : Tgs m S ps B' D') : Tgs m S (p :: ps) (B + 2 + B') (max D D') := by
  obtain ⟨d, a, s⟩ := h.ex
  obtain ⟨ds, b, t⟩ := t.ex
  exact ⟨_, .cons a b, .cons (s.mono (Nat.le_refl _) (by omega)) (t.mono (Nat.le_refl _) (by omega))⟩
theorem Tgs.append (h : Tgs m S ps B D) (t : Tgs m S qs B' D') : Tgs m S (ps ++ qs) (B + B') (max D D') := by
  obtain ⟨d, a, s⟩ := h.ex
  obtain ⟨ds, b, t⟩ := t.ex
  exact ⟨_, a.append b, (s.mono (Nat.le_refl _) (by omega)).append (t.mono (Nat.le_refl _) (by omega))⟩
theorem Tgs.take (h : Tgs m S ps B D) (i : Nat) : Tgs m S (ps.take i) B D := let ⟨d, a, s⟩ := h.ex; ⟨_, a.take i, s.take i⟩
theorem Tgs.drop (h : Tgs m S ps B D) (i : Nat) : Tgs m S (ps.drop i) B D := let ⟨d, a, s⟩ := h.ex; ⟨_, a.drop i, s.drop i⟩
theorem Tgs.rev (h : Tgs m S ps B D) : Tgs m S ps.reverse B D := let ⟨d, a, s⟩ := h.ex; ⟨_, a.rev, s.rev⟩
/-- in two parts, each with its own size -/
theorem Tgs.split (h : Tgs m S ps B D) (i : Nat) : ∃ B1 B2, Tgs m S (ps.take i) B1 D ∧ Tgs m S (ps.drop i) B2 D ∧ B1 + B2 ≤ B := let ⟨d, a, s⟩ := h.ex; ⟨_, _, ⟨_, a.take i, (s.split i).1⟩, ⟨_, a.drop i, (s.split i).2.1⟩, (s.split i).2.2⟩
theorem Tgs.len (h : Tgs m S ps B D) : 2 * ps.length ≤ B := by
  obtain ⟨d, a, s⟩ := h.ex
  rw [a.length]
  exact s.len
theorem Tgs.mem (h : Tgs m S ps B D) (hp : p ∈ ps) : Tg m S p B D := by
  obtain ⟨ds, a, s⟩ := h.ex
  obtain ⟨d, h1, h2⟩ := LA.PDts.part a p hp
  exact ⟨d, h2, s.mem h1⟩
/-- a part of many -/
theorem Tgs.at (h : Tgs m S ps B D) {i : Nat} (hi : i < ps.length) : ∃ B1 B2 B3, Tgs m S (ps.take i) B1 D ∧ Tg m S ps[i] B2 D ∧ Tgs m S (ps.drop (i + 1)) B3 D ∧ B1 + (B2 + 2 + B3) ≤ B := by
  obtain ⟨ds, a, s⟩ := h.ex
  have hj : i < ds.length := by rw [← a.length]; exact hi
  obtain ⟨d, h1, h2⟩ := a.get (List.getElem?_eq_getElem hi)
  rw [List.getElem?_eq_getElem hj] at h1
  cases h1
  have sp := s.split i
  have e : ds.drop i = ds[i] :: ds.drop (i + 1) := List.drop_eq_getElem_cons hj
  rw [e] at sp
  have sp2 := sp.2.1
  have a1 := sp2.asc
  have a2 := sp2.hgt
  have a3 := sp.2.2
  simp only [ascs, Bool.and_eq_true] at a1
  simp only [hgts] at a2
  simp only [wts] at a3
  exact ⟨_, wt ds[i], _, ⟨_, a.take i, sp.1⟩, ⟨_, h2, a1.1, by omega, Nat.le_refl _⟩, ⟨_, a.drop (i + 1), a1.2, by omega, Nat.le_refl _⟩, a3⟩
theorem Tg.tup (h : Tgs m S ps B D) : Tg m S (.tup ps) (B + 3) (D + 1) := let ⟨d, a, s⟩ := h.ex; ⟨_, .tup a, .tuple s⟩
theorem Tg.lst {n : Nat} (hn : n ∉ m) (hs : SL S n ps) (h : Tgs m S ps B D) : Tg m S (.ref n) (B + 3) (D + 1) := let ⟨d, a, s⟩ := h.ex; ⟨_, .lst (sl_hid hn hs) a, .list s⟩
theorem Tg.int_inv {i : Int} (h : Tg m S (.int i) B D) : i.natAbs.log2 + 3 ≤ B ∧ i.natAbs.log2 / 40 ≤ D := by
  obtain ⟨d, a, s⟩ := h.ex
  cases a with
  | int =>
    have h1 := s.hgt
    have h2 := s.wt
    simp only [hgt] at h1
    simp only [wt] at h2
    exact ⟨h2, h1⟩
theorem Tg.repr {Q : Post} (h : Tg m S p B D) (hB : B ≤ 1000000) (hD : D ≤ 47) (q : ∀ d, PDt (hid m S) p d → SzD B D d → Q (.str d.shown) S) : pRepr [p] S Q := by
  obtain ⟨d, a, s⟩ := h.ex
  exact repr_sm (a.mv fun n xs z => (hid_sl z).2) (s.sm hD) hB (by omega) (q d a s)
end
/-! ### texts of signs below 128 -/
theorem ascS_app {x y : Str} (hx : ascS x = true) (hy : ascS y = true) : ascS (x ++ y) = true := by
  unfold ascS at *
  rw [Str.cps_append, Array.toList_append, List.all_append, hx, hy]; rfl
theorem ascS_cut {x : Str} (h : ascS x = true) (lo hi : Option Int) : ascS (cutS x lo hi) = true := by
  refine List.all_eq_true.mpr fun c hc => ?_
  unfold cutS at hc
  rw [List.toList_toArray] at hc
  exact List.all_eq_true.mp h c (List.mem_of_mem_drop (List.mem_of_mem_take hc))
theorem ascS_int (i : Int) : ascS (toString i : Str) = true := by
  refine List.all_eq_true.mpr fun c hc => decide_eq_true ?_
  have e : (toString i : Str).cps.toList = (toString i : String).toList.map Char.toNat := by
    exact PyProof.Rows.signs_ofString _
  rw [e] at hc
  obtain ⟨d, hd, rfl⟩ := List.mem_map.mp hc
  exact int_ascii i d hd
/-! ### numbers a little otherwise -/
theorem Tg.int_str {m : List Nat} {S : Sto} {i : Int} {B D : Nat} (h : Tg m S (.int i) B D) : Tg m S (.str (toString i)) (10 * B + 2) D := by
  obtain ⟨h1, h2⟩ := h.int_inv
  have := int_wt i
  exact (Tg.str (ascS_int i)).up (by omega) (Nat.zero_le _)
end M

/-! Expressions that tell things; the store only grows. -/
namespace M
open PySem L2
variable [Tabs]
def EvT (m : List Nat) (S0 : Sto) (fr : Fr) (e : WE) (B D : Nat) : Prop := ∀ (S : Sto) (Q : Post), Gro m S0 S → (∀ p S', Ext S S' → Tg m S' p B D → Q p S') → e fr S Q
def EvX (m : List Nat) (S0 : Sto) (fr : Fr) (e : WE) (B D : Nat) : Prop := ∀ (S : Sto) (Q : Post), Gro m S0 S → (∀ xs S', Ext S S' → Tgs m S' xs B D → Q (.tup xs) S') → e fr S Q
def EvL (m : List Nat) (S0 : Sto) (fr : Fr) (e : WE) (k B D : Nat) : Prop := ∀ (S : Sto) (Q : Post), Gro m S0 S → (∀ n xs S', Ext S S' → n ∉ m → S.length ≤ n → S'[n]? = some (.lst xs) → Tgs (n :: m) S' xs B D → k ≤ xs.length → Q (.ref n) S') → e fr S Q
def EvS (m : List Nat) (S0 : Sto) (fr : Fr) (e : WE) (L : Nat) : Prop := ∀ (S : Sto) (Q : Post), Gro m S0 S → (∀ x, ascS x = true → x.length ≤ L → Q (.str x) S) → e fr S Q
def EvA (m : List Nat) (S0 : Sto) (fr : Fr) (g : WA) (n B D : Nat) : Prop := ∀ (S : Sto) (Q : List PV → Sto → Prop), Gro m S0 S → (∀ ps S', Ext S S' → Tgs m S' ps B D → ps.length = n → Q ps S') → g fr S Q
section
variable {m : List Nat} {S0 : Sto} {fr : Fr} {e e' : WE} {g : WA} {n k k' B B' D D' L L' i : Nat} {xs : List PV} {p : PV}
theorem EvT.up (h : EvT m S0 fr e B D) (hB : B ≤ B') (hD : D ≤ D') : EvT m S0 fr e B' D' := fun S Q G q => h S Q G fun p S' x t => q p S' x (t.up hB hD)
theorem EvX.up (h : EvX m S0 fr e B D) (hB : B ≤ B') (hD : D ≤ D') : EvX m S0 fr e B' D' := fun S Q G q => h S Q G fun p S' x t => q p S' x (t.up hB hD)
theorem EvA.up (h : EvA m S0 fr g n B D) (hB : B ≤ B') (hD : D ≤ D') : EvA m S0 fr g n B' D' := fun S Q G q => h S Q G fun p S' x t => q p S' x (t.up hB hD)
theorem EvL.up (h : EvL m S0 fr e k B D) (hB : B ≤ B') (hD : D ≤ D') : EvL m S0 fr e k B' D' := fun S Q G q => h S Q G fun n xs S' x a b c t hk => q n xs S' x a b c (t.up hB hD) hk
theorem EvX.t (h : EvX m S0 fr e B D) : EvT m S0 fr e (B + 3) (D + 1) := fun S Q G q => h S Q G fun xs S' x t => q _ S' x (.tup t)
theorem EvL.t (h : EvL m S0 fr e k B D) : EvT m S0 fr e (B + 3) (D + 1) := fun S Q G q => h S Q G fun n xs S' x hn _ hs t _ => q _ S' x (.lst hn (.inl hs) (t.fewer fun _ h => List.mem_cons_of_mem _ h))
theorem EvS.t (h : EvS m S0 fr e L) : EvT m S0 fr e (10 * L + 2) 0 := fun S Q G q => h S Q G fun x a l => q _ S (.refl S) ((Tg.str a).up (by omega) (by omega))
theorem EvS.up (h : EvS m S0 fr e L) (hL : L ≤ L') : EvS m S0 fr e L' := fun S Q G q => h S Q G fun x a l => q x a (by omega)
theorem Tgs.rest {S : Sto} {n : Nat} (t : Tgs (n :: m) S xs B D) : Tgs m S xs B D := t.fewer fun _ h => List.mem_cons_of_mem _ h
/-- one of a list, by a number below its length -/
theorem at_pick {S : Sto} {n r : Nat} {xs : List PV} {Q : Post} (h : SL S n xs) (hr : r < xs.length) (q : ∀ x ∈ xs, Q x S) : bIdx (.ref n) (.int (r : Nat)) S Q :=
  ⟨xs, xs[r], h, atI_mod (by omega) (by rw [Int.toNat_natCast, List.getElem?_eq_getElem hr]), q _ (List.getElem_mem hr)⟩
end
end M
namespace M
open PySem L2
variable [Tabs]
/-! ### kinds of things -/
section
variable {S : Sto} {p : PV} {Q : Post}
theorem Tg.eq {m : List Nat} {p p' : PV} {B D B' D' : Nat} (t : Tg m S p B D) (hD : D ≤ 64) (t' : Tg m S p' B' D') (hD' : D' ≤ 64) (q : ∀ d e, PDt S p d → PDt S p' e → Q (.bl (PyData.eqv d e)) S) : bEqD false p p' S Q := by
  obtain ⟨d, a, s⟩ := t.dt
  obtain ⟨e, a', s'⟩ := t'.dt
  exact ⟨d, e, a, a', s.shaped hD, s'.shaped hD', q d e a a'⟩
end
theorem Tgs.at' {m : List Nat} {S : Sto} {xs : List PV} {B D r : Nat} (t : Tgs m S xs B D) (hr : r < xs.length) : Tg m S xs[r] B D := t.mem (List.getElem_mem hr)
end M
namespace M
open PySem L2
variable [Tabs]
section
variable {c d : WT} {a b : WS} {D : PD} {fr : Fr} {S : Sto} {K : Bool → Sto → Prop} {i : Nat} {p : PV}
end
end M
namespace M
open PySem L2
variable [Tabs]
section
variable {m : List Nat} {S0 : Sto} {fr : Fr} {i : Nat} {z : Int} {B D : Nat}
end
end M
namespace M
open PySem L2
variable [Tabs]
section
variable {m : List Nat} {S0 : Sto} {fr : Fr} {i : Nat} {p : PV} {B D : Nat}
end
end M
namespace M
open PySem L2
variable [Tabs]
section
variable {m : List Nat} {S S0 : Sto} {fr : Fr} {e e' : WE} {i j n B B' D D' : Nat} {xs : List PV} {Q : Post}
end
end M

/-! Deeds: what is one, by the program and by the law; what they make. -/
namespace M
open PySem L2
variable [Tabs]
/-! ### the law's own look at a set -/
theorem goB_iff {n : Nat} : ∀ (zs : List Int) (last : Int), goB n last (zs.map PV.int) = true ↔ zs.Pairwise (· < ·) ∧ ∀ z ∈ zs, last < z ∧ 0 ≤ z ∧ z < n
  | [], last => by
    constructor
    · intro _; exact ⟨.nil, fun _ h => nomatch h⟩
    · intro _; rfl
  | z :: zs, last => by
    have ih := goB_iff (n := n) zs z
    show ((decide (0 ≤ z) && decide (z < (n : Nat))) && (decide (last < z) && goB n z (zs.map PV.int))) = true ↔ _
    simp only [Bool.and_eq_true, decide_eq_true_eq, ih, List.pairwise_cons, List.mem_cons, forall_eq_or_imp]
    constructor
    · rintro ⟨⟨h1, h2⟩, h3, h4, h5⟩
      exact ⟨⟨fun y hy => (h5 y hy).1, h4⟩, ⟨h3, h1, h2⟩, fun y hy => ⟨by have := (h5 y hy).1; omega, (h5 y hy).2⟩⟩
    · rintro ⟨⟨h1, h2⟩, ⟨h3, h4, h5⟩, h6⟩
      exact ⟨⟨h4, h5⟩, h3, h2, fun y hy => ⟨h1 y hy, (h6 y hy).2⟩⟩
end M

/-! Sets and families as texts. -/
namespace M
open PySem L2
variable [Tabs]
abbrev comma : Str := Str.ofString ","
abbrev dash : Str := Str.ofString "-"
abbrev figs : List Str := [Str.ofString "0", Str.ofString "1", Str.ofString "2", Str.ofString "3", Str.ofString "4", Str.ofString "5", Str.ofString "6", Str.ofString "7", Str.ofString "8"]
def dg (i : Int) : Str := toString i
def tj (c : Nat) : Str := Txt.join comma ((bset 8 c).map dg)
def tx (c : Nat) : Str := if c = 0 then dash else tj c
theorem tx_split : (List.range 256).all (fun c => c == 0 || decide (Txt.split (tx c) comma = (bset 8 c).map dg)) = true := by decide +kernel
theorem tx_dash : (List.range 256).all (fun c => c == 0 || !decide (tx c = dash)) = true := by decide +kernel
theorem tx_len : (List.range 256).all (fun c => decide ((tx c).length ≤ 20)) = true := by decide +kernel
theorem dg_figs : (List.range 9).all (fun p => decide (dg (p : Nat) ∈ figs) && decide (PySem.intText? (dg (p : Nat)) = some ((p : Nat) : Int)) && decide ((dg (p : Nat)).length = 1)) = true := by decide +kernel
def hd (n : Nat) : Str := Str.ofString "family " ++ dg (n : Nat)
end M

/-! Texts written and read. -/
namespace M
open PySem L2
variable [Tabs]
section
variable {c : Nat}
theorem tx_s (h0 : c ≠ 0) (hc : c < 256) : Txt.split (tx c) comma = (bset 8 c).map dg := by
  have := List.all_eq_true.mp tx_split c (List.mem_range.mpr hc)
  rw [Bool.or_eq_true, beq_iff_eq, decide_eq_true_eq] at this
  exact this.resolve_left h0
theorem tx_d (h0 : c ≠ 0) (hc : c < 256) : tx c ≠ dash := by
  have := List.all_eq_true.mp tx_dash c (List.mem_range.mpr hc)
  rw [Bool.or_eq_true, beq_iff_eq, Bool.not_eq_true', decide_eq_false_iff_not] at this
  exact this.resolve_left h0
theorem tx_l (hc : c < 256) : (tx c).length ≤ 20 := of_decide_eq_true (List.all_eq_true.mp tx_len c (List.mem_range.mpr hc))
theorem tx_0 : tx 0 = dash := rfl
theorem tx_n (h0 : c ≠ 0) : tx c = Txt.join comma ((bset 8 c).map dg) := if_neg h0
theorem dg_of {p : Nat} (hp : p < 9) : dg (p : Nat) ∈ figs ∧ PySem.intText? (dg (p : Nat)) = some ((p : Nat) : Int) ∧ (dg (p : Nat)).length = 1 := by
  have := List.all_eq_true.mp dg_figs p (List.mem_range.mpr hp)
  rw [Bool.and_eq_true, Bool.and_eq_true, decide_eq_true_eq, decide_eq_true_eq, decide_eq_true_eq] at this
  exact ⟨this.1.1, this.1.2, this.2⟩
theorem bset_ne (h0 : c ≠ 0) (hc : c < 256) : bset 8 c ≠ [] := fun e => h0 (b8_inj hc (by decide) (e.trans (by decide +kernel)))
theorem bset_p {i : Int} (h : i ∈ bset 8 c) : ∃ p : Nat, i = (p : Nat) ∧ p < 8 := by
  obtain ⟨p, rfl, hp, _⟩ := mem_bset.mp h
  exact ⟨p, rfl, hp⟩
end
theorem flat_strs : ∀ ys : List Str, (ys.map PV.str).all flatP = true
  | [] => rfl
  | _ :: ys => by rw [List.map_cons, List.all_cons]; exact flat_strs ys
theorem log_small {i : Int} (h0 : 0 ≤ i) (h1 : i < 1000) : i.natAbs.log2 < 1920 := by
  have : i.natAbs < 2 ^ 1920 := Nat.lt_of_lt_of_le (show i.natAbs < 2 ^ 10 by omega) (Nat.pow_le_pow_right (by decide) (by decide))
  by_cases hz : i.natAbs = 0
  · rw [hz]; decide
  · exact (Nat.log2_lt hz).mpr this
def strP : PV → PV
  | .int i => .str (dg i)
  | p => p
def unD : PV → PV
  | .str a => .int ((PySem.intText? a).getD 0)
  | p => p
theorem str_map (xs : List Int) : (xs.map PV.int).map strP = (xs.map dg).map PV.str := by rw [List.map_map, List.map_map]; rfl
theorem join_len {c : Nat} : (((bset 8 c).map dg).map (·.length)).sum + ((bset 8 c).map dg).length * comma.length ≤ 16777216 := by
  have h1 : ((bset 8 c).map dg).map (·.length) = (bset 8 c).map fun _ => 1 := by
    rw [List.map_map]
    refine List.map_congr_left fun i h => ?_
    obtain ⟨p, rfl, hp⟩ := bset_p h
    exact (dg_of (by omega)).2.2
  have h2 : ((bset 8 c).map fun _ => 1).sum = (bset 8 c).length := by
    generalize bset 8 c = l
    induction l with
    | nil => rfl
    | cons x l ih => rw [List.map_cons, List.sum_cons, ih, List.length_cons, Nat.add_comm]
  have h3 := bset_length 8 c
  have h4 : comma.length = 1 := by decide
  rw [h1, h2, h4, List.length_map]
  omega
def w32_set_text : WS :=
    (wSeq (wIfS (wNotT (wTru (wVar 0))) (wRet (wC (.str (Str.ofString "-")))) wNext)
    (wRet (wMeth "str" pJoin (wC (.str (Str.ofString ","))) (wCons (wLc 1 (wISeq (wVar 0)) wYes (wCall pStr (wCons (wVar 1) wNil))) wNil))))
def N32_set_text : List Str := ["a", "b"]
def sp32_set_text : PSp := fun vs S Q => ∃ c : Nat, vs = [sv c] ∧ c < 256 ∧ ∀ S', Ext S S' → Q (.str (tx c)) S'
theorem len32_set_text : ∀ vs S Q, sp32_set_text vs S Q → vs.length = 1 := by rintro _ S Q ⟨c, rfl, _⟩; rfl
theorem rd32_set_text : ∀ vs S Q, sp32_set_text vs S Q → w32_set_text { nx := fun _ S' => Q .non S', rt := Q } (startP N32_set_text vs) S := by
  rintro _ S Q ⟨c, rfl, hc, q⟩
  refine sret ⟨_, rfl, _, rfl, ?_⟩
  by_cases h0 : c = 0
  · subst h0
    exact iteT (q S (.refl S))
  · have hne := bset_ne h0 hc
    have e : (!!((bset 8 c).map PV.int).isEmpty) = false := by
      rw [Bool.not_not, List.isEmpty_map]
      cases hb : bset 8 c with
      | nil => exact absurd hb hne
      | cons _ _ => rfl
    dsimp only
    rw [e]
    refine iteF ⟨trivial, _, rfl, ?_⟩
    refine runLc_map (f := strP) trivial ((bset 8 c).map PV.int) (fun x hx Q' q' => ?_) (by rw [List.length_map]; have := bset_length 8 c; omega) ?_
    · obtain ⟨i, h, rfl⟩ := List.mem_map.mp hx
      obtain ⟨p, rfl, hp⟩ := bset_p h
      exact ⟨_, rfl, log_small (by omega) (by omega), q'⟩
    · rw [str_map]
      refine ⟨(bset 8 c).map dg, sl_end _ _, join_len, ?_⟩
      rw [← tx_n h0]
      exact q _ (Ext.app _ _)
def w32_read_set (sp_is_set : PSp) : WS :=
    (wSeq (wIfS (wB (wOp (bEq false) (wVar 1) (wC (.str (Str.ofString "-"))))) (wRet (wTup wNil)) wNext)
    (wSeq (wAsg (wMeth "str" pSplit (wVar 1) (wCons (wC (.str (Str.ofString ","))) wNil)) (pName 2))
    (wSeq (wIfS (wNotT (wTru (wGen true 4 (wISeq (wVar 2)) wYes (wOp (bIn false) (wVar 4) (wC (.tup (([(Str.ofString "0"), (Str.ofString "1"), (Str.ofString "2"), (Str.ofString "3"), (Str.ofString "4"), (Str.ofString "5"), (Str.ofString "6"), (Str.ofString "7"), (Str.ofString "8")] : List Str).map PV.str))))))) (wRet (wC .non)) wNext)
    (wSeq (wAsg (wCall pTuple (wCons (wLc 4 (wISeq (wVar 2)) wYes (wCall pInt (wCons (wVar 4) wNil))) wNil)) (pName 3))
    (wRet (wIf (wTru (wCall sp_is_set (wCons (wVar 0) (wCons (wVar 3) wNil)))) (wVar 3) (wC .non)))))))
def N32_read_set : List Str := ["a", "b", "c", "d", "e"]
end M

/-! The lines of a family. -/
namespace M
open PySem L2
variable [Tabs]
theorem shaped_row (zs : List Int) : SeqAt.shaped (.tuple (dts zs)) = true := by
  show SeqAt.shaped (.tuple (zs.map PyData.int)) = true
  simp only [SeqAt.shaped, PyData.canLay0, canLay_ints, PyData.depth, depth_ints, Bool.true_and]; decide
/-! ### lines as data -/
end M

/-! Sets read from any text. -/
namespace M
open PySem L2
variable [Tabs]
/-! ### pieces and their weight -/
def wt54 (ts : List Str) : Nat := (ts.map (·.length)).sum + ts.length
theorem wt_nil : wt54 [] = 0 := rfl
theorem wt_cons (t : Str) (ts : List Str) : wt54 (t :: ts) = t.length + 1 + wt54 ts := by
  unfold wt54
  rw [List.map_cons, List.sum_cons, List.length_cons]
  omega
theorem wt_app : ∀ ts us : List Str, wt54 (ts ++ us) = wt54 ts + wt54 us
  | [], us => by rw [List.nil_append, wt_nil, Nat.zero_add]
  | t :: ts, us => by rw [List.cons_append, wt_cons, wt_cons, wt_app ts us]; omega
theorem wt_sub {ts us : List Str} (h : ts.Sublist us) : wt54 ts ≤ wt54 us := by
  induction h with
  | slnil => exact Nat.le_refl _
  | cons a _ ih => rw [wt_cons]; omega
  | cons_cons a _ ih => rw [wt_cons, wt_cons]; omega
theorem wt_mem {t : Str} : ∀ {ts : List Str}, t ∈ ts → t.length + 1 ≤ wt54 ts
  | a :: ts, h => by
    rw [wt_cons]
    rcases List.mem_cons.mp h with e | h
    · rw [e]; omega
    · have := wt_mem h; omega
theorem wt_set {t : Str} : ∀ (ts : List Str) (i : Nat), wt54 (ts.set i t) ≤ wt54 ts + t.length
  | [], _ => Nat.zero_le _
  | a :: ts, 0 => by rw [List.set_cons_zero, wt_cons, wt_cons]; omega
  | a :: ts, i + 1 => by have := wt_set (t := t) ts i; rw [List.set_cons_succ, wt_cons, wt_cons]; omega
theorem join_wt : ∀ (t : Str) (ts : List Str), (Str.join comma (t :: ts)).length + 1 = wt54 (t :: ts)
  | t, [] => by rw [wt_cons, wt_nil]; rfl
  | t, u :: ts => by
    have h := join_wt u ts
    have hc : comma.length = 1 := by decide
    show (t ++ comma ++ Str.join comma (u :: ts)).length + 1 = _
    rw [Str.length_append, Str.length_append, wt_cons t (u :: ts)]
    omega
theorem split_wt (a : Str) : wt54 (Txt.split a comma) = a.length + 1 := by
  have h := StrLaws.join_split a comma
  have p := PyProof.Rows.split_pos a comma
  cases e : Txt.split a comma with
  | nil => rw [e] at p; exact absurd p (by decide)
  | cons t ts =>
    rw [e] at h
    have := join_wt t ts
    rw [h] at this
    exact this.symm
theorem join_le (ts : List Str) : (Txt.join comma ts).length ≤ wt54 ts := by
  have h := StrLaws.join_length_le comma ts
  have hc : comma.length = 1 := by decide
  show (Builtin.Str.glued comma ts).length ≤ _
  rw [StrLaws.glued_eq_join]
  unfold wt54
  rw [hc] at h
  omega
theorem wt_len (ts : List Str) : ts.length ≤ wt54 ts := Nat.le_add_left _ _
theorem asc_join : ∀ ts : List Str, ascS (Str.join comma ts) = true → ∀ t ∈ ts, ascS t = true
  | [], _, _, h => nomatch h
  | [t], h, x, hx => by rw [List.mem_singleton.mp hx]; exact h
  | t :: u :: ts, h, x, hx => by
    have h' : ascS (t ++ comma ++ Str.join comma (u :: ts)) = true := h
    unfold ascS at h'
    rw [Str.cps_append, Str.cps_append, Array.toList_append, Array.toList_append, List.all_append, List.all_append, Bool.and_eq_true, Bool.and_eq_true] at h'
    rcases (List.mem_cons.mp hx) with e | hx
    · rw [e]; exact h'.1.1
    · exact asc_join (u :: ts) h'.2 x hx
theorem split_asc {a : Str} (h : ascS a = true) : ∀ t ∈ Txt.split a comma, ascS t = true := asc_join _ (by rw [StrLaws.join_split]; exact h)
theorem join_asc : ∀ ts : List Str, (∀ t ∈ ts, ascS t = true) → ascS (Str.join comma ts) = true
  | [], _ => by decide +kernel
  | [t], h => h t List.mem_cons_self
  | t :: u :: ts, h => by
    show ascS (t ++ comma ++ Str.join comma (u :: ts)) = true
    exact ascS_app (ascS_app (h t List.mem_cons_self) (by decide +kernel)) (join_asc (u :: ts) fun x hx => h x (List.mem_cons_of_mem _ hx))
theorem tjoin_asc {ts : List Str} (h : ∀ t ∈ ts, ascS t = true) : ascS (Txt.join comma ts) = true := by
  show ascS (Builtin.Str.glued comma ts) = true
  rw [StrLaws.glued_eq_join]
  exact join_asc ts h
/-! ### the figures -/
theorem figs_eq : figs = (List.range 9).map fun p : Nat => dg (p : Int) := by decide +kernel
theorem figs8_eq : ([Str.ofString "0", Str.ofString "1", Str.ofString "2", Str.ofString "3", Str.ofString "4", Str.ofString "5", Str.ofString "6", Str.ofString "7"] : List Str) = (List.range 8).map fun p : Nat => dg (p : Int) := by decide +kernel
def val (w : Str) : Int := (PySem.intText? w).getD 0
theorem val_dg {p : Nat} (hp : p < 9) : val (dg (p : Nat)) = (p : Nat) := by unfold val; rw [(dg_of hp).2.1]; rfl
theorem dg_inj {p q : Nat} (hp : p < 9) (hq : q < 9) (h : dg (p : Nat) = dg (q : Nat)) : p = q := by
  have := congrArg val h
  rw [val_dg hp, val_dg hq] at this
  omega
theorem in_strs (a : Str) : ∀ ys : List Str, inP (.str a) (ys.map PV.str) = decide (a ∈ ys)
  | [] => rfl
  | y :: ys => by
    show (eqP (.str y) (.str a) || inP (.str a) (ys.map PV.str)) = _
    rw [in_strs a ys]
    have : eqP (.str y) (.str a) = decide (y = a) := by
      unfold eqP
      by_cases h : y = a
      · rw [decide_eq_true h, h]; exact beq_self_eq_true a
      · rw [decide_eq_false h]; exact beq_eq_false_iff_ne.mpr h
    rw [this]
    by_cases h : y = a
    · subst h
      rw [decide_eq_true rfl, decide_eq_true List.mem_cons_self]; rfl
    · rw [decide_eq_false h, Bool.false_or]
      exact decide_eq_decide.mpr ⟨fun m => List.mem_cons_of_mem _ m, fun m => (List.mem_cons.mp m).elim (fun e => absurd e.symm h) id⟩
theorem below_mem {n : Nat} {w : Str} : w ∈ (List.range n).map (fun p : Nat => dg (p : Int)) ↔ ∃ p : Nat, p < n ∧ w = dg (p : Nat) := by
  rw [List.mem_map]
  exact ⟨fun ⟨p, h, e⟩ => ⟨p, List.mem_range.mp h, e.symm⟩, fun ⟨p, h, e⟩ => ⟨p, List.mem_range.mpr h, e.symm⟩⟩
/-- what a text reads as -/
def rdV (n : Nat) (a : Str) : PV :=
  if a = dash then .tup [] else
  if (Txt.split a comma).all (fun w => decide (w ∈ figs)) = true then
    (if setB (n : Nat) (tv ((Txt.split a comma).map val)) = true then tv ((Txt.split a comma).map val) else .non)
  else .non
def sp54_read_set : PSp := fun vs S Q => ∃ (n : Nat) (a : Str), vs = [.int (n : Nat), .str a] ∧ n ≤ 8 ∧ a.length ≤ 300 ∧ ascS a = true ∧ ∀ S', Ext S S' → Q (rdV n a) S'
theorem len54_read_set : ∀ vs S Q, sp54_read_set vs S Q → vs.length = 2 := by rintro _ S Q ⟨n, a, rfl, _⟩; rfl
theorem rd54_read_set : ∀ vs S Q, sp54_read_set vs S Q → w32_read_set sp11_is_set { nx := fun _ S' => Q .non S', rt := Q } (startP N32_read_set vs) S := by
  rintro _ S Q ⟨n, a, rfl, hn, ha, hA, q⟩
  refine sret ⟨_, rfl, _, rfl, ?_⟩
  show if (decide (a = dash) ^^ false) = true then _ else _
  rw [Bool.xor_false]
  unfold rdV at q
  by_cases h0 : a = dash
  · rw [decide_eq_true h0]
    rw [if_pos h0] at q
    exact iteT ⟨Nat.zero_le _, q S (.refl S)⟩
  rw [decide_eq_false h0]
  rw [if_neg h0] at q
  refine iteF (sa ⟨_, rfl, trivial, by decide, Nat.le_trans (show a.length + 2 ≤ 1000 by omega) (by decide), ?_⟩)
  have hwt := split_wt a
  have hwl := wt_len (Txt.split a comma)
  have hwa := split_asc hA
  generalize Txt.split a comma = ws at q hwt hwl hwa ⊢
  have g1 := sl_end S (ws.map PV.str)
  have x1 : Ext S (S ++ [MO.lst (ws.map PV.str)]) := Ext.app _ _
  dsimp only
  generalize S ++ [MO.lst (ws.map PV.str)] = S1 at g1 x1
  refine sret ⟨_, rfl, ⟨_, g1⟩, _, g1, ?_⟩
  refine runGen_pure (g := fun p => match p with | .str w => decide (w ∈ figs) | _ => false) g1 _ (fun y hy Q' q' => ?_) ?_
  · obtain ⟨w, hw, rfl⟩ := List.mem_map.mp hy
    refine ⟨_, rfl, _, rfl, rfl, flat_strs _, ?_⟩
    rw [if_neg (by decide), in_strs]
    exact q'
  rw [if_pos rfl]
  have ea : (ws.map PV.str).all (fun p => match p with | .str w => decide (w ∈ figs) | _ => false) = ws.all fun w => decide (w ∈ figs) := by
    rw [List.all_map]; rfl
  rw [ea]
  cases hall : ws.all fun w => decide (w ∈ figs) with
  | false =>
    rw [hall, if_neg (by decide)] at q
    exact ⟨_, rfl, iteT (q _ x1)⟩
  | true =>
  rw [hall, if_pos rfl] at q
  have hf : ∀ w ∈ ws, ∃ p : Nat, p < 9 ∧ w = dg (p : Nat) := fun w hw => by
    have := of_decide_eq_true (List.all_eq_true.mp hall w hw)
    rw [figs_eq] at this
    exact below_mem.mp this
  refine ⟨_, rfl, iteF (sa ⟨_, rfl, ⟨_, g1⟩, _, g1, ?_⟩)⟩
  refine runLc_map (f := unD) g1 _ (fun x hx Q' q' => ?_) (by rw [List.length_map]; omega) ?_
  · obtain ⟨w, hw, rfl⟩ := List.mem_map.mp hx
    obtain ⟨p, hp, rfl⟩ := hf w hw
    obtain ⟨_, h2, h3⟩ := dg_of hp
    refine ⟨_, rfl, _, h2, by omega, ?_⟩
    have q' : Q' (.int ((PySem.intText? (dg (p : Nat))).getD 0)) S1 := q'
    rw [h2] at q'
    exact q'
  have eu : (ws.map PV.str).map unD = (ws.map val).map PV.int := by rw [List.map_map, List.map_map]; rfl
  rw [eu]
  refine ⟨_, sl_end _ _, ?_⟩
  refine ⟨_, rfl, _, rfl, _, _, rfl, ⟨_, .tup (pdts_ints _ _)⟩, _, rfl, ?_⟩
  have q2 := q _ (x1.trans (Ext.app S1 [MO.lst ((ws.map val).map PV.int)]))
  by_cases hs : setB (n : Nat) (tv (ws.map val)) = true
  · rw [if_pos hs] at q2
    rw [show setB ((n : Nat) : Int) (.tup ((ws.map val).map PV.int)) = true from hs]
    exact iteT ⟨_, rfl, q2⟩
  · rw [if_neg hs] at q2
    rw [show setB ((n : Nat) : Int) (.tup ((ws.map val).map PV.int)) = false from Bool.eq_false_iff.mpr hs]
    exact iteF q2
/-! ### by the law -/
def N54_l_read : List Str := ["a", "b", "c", "d", "e", "f"]
def w54_l_read : WS :=
    (wSeq (wIfS (wB (wOp (bEq false) (wVar 1) (wC (.str (Str.ofString "-"))))) (wRet (wTup wNil)) wNext)
    (wSeq (wAsg (wMeth "str" pSplit (wVar 1) (wCons (wC (.str (Str.ofString ","))) wNil)) (pName 2))
    (wSeq (wAsg (wSl (wLst (wCons (wC (.str (Str.ofString "0"))) (wCons (wC (.str (Str.ofString "1"))) (wCons (wC (.str (Str.ofString "2"))) (wCons (wC (.str (Str.ofString "3"))) (wCons (wC (.str (Str.ofString "4"))) (wCons (wC (.str (Str.ofString "5"))) (wCons (wC (.str (Str.ofString "6"))) (wCons (wC (.str (Str.ofString "7"))) wNil))))))))) wNoPart (wPart (wVar 0))) (pName 3))
    (wSeq (wIfS (wB (wOp (bEq true) (wLc 5 (wISeq (wVar 2)) (wB (wOp (bIn true) (wVar 5) (wVar 3))) (wVar 5)) (wLst wNil))) (wRet (wC .non)) wNext)
    (wSeq (wAsg (wCall pTuple (wCons (wLc 5 (wISeq (wVar 2)) wYes (wMeth "list" pIndexL (wVar 3) (wCons (wVar 5) wNil))) wNil)) (pName 4))
    (wRet (wIf (wB (wOp (bEq false) (wCall pList (wCons (wVar 4) wNil)) (wCall pSortSetT (wCons (wVar 4) wNil)))) (wVar 4) (wC .non))))))))
def sp54_l_read : PSp := sp54_read_set
theorem len54_l_read : ∀ vs S Q, sp54_l_read vs S Q → vs.length = 2 := len54_read_set
theorem strict_eq {ks ns : List Int} (hm : ∀ k, k ∈ ns ↔ k ∈ ks) (hs : ns.Pairwise (· < ·)) : ks = ns ↔ ks.Pairwise (· < ·) := by
  constructor
  · intro e; rw [e]; exact hs
  · intro hk
    exact sorted_ext hk hs fun k => (hm k).symm
theorem pdts_strs (S : Sto) : ∀ ws : List Str, PDts S (ws.map PV.str) (ws.map PyData.str)
  | [] => .nil
  | w :: ws => .cons (.str w) (pdts_strs S ws)
theorem canLay54 : ∀ ws : List Str, (∀ w ∈ ws, ascS w = true) → PyData.canLayAll0 (ws.map PyData.str) = true
  | [], _ => rfl
  | w :: ws, h => by simp only [List.map_cons, PyData.canLayAll0, PyData.canLay0, canLay54 ws fun x hx => h x (List.mem_cons_of_mem _ hx), strOk_asc (h w List.mem_cons_self), Bool.and_self]
theorem depth54 : ∀ ws : List Str, PyData.depthAll (ws.map PyData.str) = 0
  | [] => rfl
  | w :: ws => by simp only [List.map_cons, PyData.depthAll, PyData.depth, depth54 ws, Nat.max_self]
theorem shaped54 (ws : List Str) (h : ∀ w ∈ ws, ascS w = true) : SeqAt.shaped (.list (ws.map PyData.str)) = true := by
  simp only [SeqAt.shaped, PyData.canLay0, canLay54 ws h, PyData.depth, depth54, Bool.true_and, Nat.zero_add]; decide
theorem set_strict {n : Nat} (ps : List Nat) (h : ∀ p ∈ ps, p < n) : setB (n : Nat) (tv (ps.map fun p : Nat => (p : Int))) = decide ((ps.map fun p : Nat => (p : Int)).Pairwise (· < ·)) := by
  rw [Bool.eq_iff_iff, decide_eq_true_eq]
  refine (goB_iff _ _).trans ⟨fun x => x.1, fun x => ⟨x, fun z hz => ?_⟩⟩
  obtain ⟨p, hp, rfl⟩ := List.mem_map.mp hz
  have := h p hp
  omega
theorem set_far {n : Nat} {zs : List Int} {z : Int} (hz : z ∈ zs) (h : (n : Int) ≤ z) : setB (n : Nat) (tv zs) = false := by
  cases e : setB (n : Nat) (tv zs) with
  | false => rfl
  | true =>
    have := ((goB_iff _ _).mp (show goB (n : Nat) (-1) (zs.map PV.int) = true from e)).2 z hz
    omega
theorem words_ps {n : Nat} : ∀ {ws : List Str}, (∀ w ∈ ws, ∃ p : Nat, p < n ∧ w = dg (p : Nat)) → ∃ ps : List Nat, ws = ps.map (fun p : Nat => dg (p : Int)) ∧ ∀ p ∈ ps, p < n
  | [], _ => ⟨[], rfl, fun _ h => nomatch h⟩
  | w :: ws, h => by
    obtain ⟨p, hp, rfl⟩ := h w List.mem_cons_self
    obtain ⟨ps, rfl, hps⟩ := words_ps fun u hu => h u (List.mem_cons_of_mem _ hu)
    exact ⟨p :: ps, rfl, fun x hx => (List.mem_cons.mp hx).elim (fun e => e ▸ hp) (hps x)⟩
def whP (n : Nat) : PV → PV
  | .str w => .int (val w)
  | p => p
theorem rd54_l_read : ∀ vs S Q, sp54_l_read vs S Q → w54_l_read { nx := fun _ S' => Q .non S', rt := Q } (startP N54_l_read vs) S := by
  rintro _ S Q ⟨n, a, rfl, hn, ha, hA, q⟩
  refine sret ⟨_, rfl, _, rfl, ?_⟩
  show if (decide (a = dash) ^^ false) = true then _ else _
  rw [Bool.xor_false]
  unfold rdV at q
  by_cases h0 : a = dash
  · rw [decide_eq_true h0]
    rw [if_pos h0] at q
    exact iteT ⟨Nat.zero_le _, q S (.refl S)⟩
  rw [decide_eq_false h0]
  rw [if_neg h0] at q
  refine iteF (sa ⟨_, rfl, trivial, by decide, Nat.le_trans (show a.length + 2 ≤ 1000 by omega) (by decide), ?_⟩)
  have hwt := split_wt a
  have hwl := wt_len (Txt.split a comma)
  have hwa := split_asc hA
  generalize Txt.split a comma = ws at q hwt hwl hwa ⊢
  have g1 := sl_end S (ws.map PV.str)
  have x1 : Ext S (S ++ [MO.lst (ws.map PV.str)]) := Ext.app _ _
  dsimp only
  generalize S ++ [MO.lst (ws.map PV.str)] = S1 at g1 x1
  generalize S.length = pw at g1 ⊢
  refine sa ⟨sz (by decide : 8 ≤ 1000), _, rfl, _, rfl, ?_⟩
  dsimp only [bSl, wNoPart, wNil]
  have e8 : [PV.str (Str.ofString "0"), .str (Str.ofString "1"), .str (Str.ofString "2"), .str (Str.ofString "3"), .str (Str.ofString "4"), .str (Str.ofString "5"), .str (Str.ofString "6"), .str (Str.ofString "7")] = ((List.range 8).map fun p : Nat => dg (p : Int)).map PV.str := by rw [← figs8_eq]; rfl
  refine ⟨_, sl_end _ _, ?_⟩
  rw [e8, cutP_take _ _ (by rw [List.length_map, List.length_map, List.length_range]; exact hn), ← List.map_take, ← List.map_take, List.take_range, Nat.min_eq_left hn]
  have x2 := (Ext.app S1 [MO.lst (((List.range 8).map fun p : Nat => dg (p : Int)).map PV.str)]).trans (Ext.app _ [MO.lst (((List.range n).map fun p : Nat => dg (p : Int)).map PV.str)])
  have g2 := sl_end (S1 ++ [MO.lst (((List.range 8).map fun p : Nat => dg (p : Int)).map PV.str)]) (((List.range n).map fun p : Nat => dg (p : Int)).map PV.str)
  have g12 := x2.sl g1
  generalize (S1 ++ [MO.lst (((List.range 8).map fun p : Nat => dg (p : Int)).map PV.str)]).length = pf at g2 ⊢
  generalize (S1 ++ [MO.lst (((List.range 8).map fun p : Nat => dg (p : Int)).map PV.str)]) ++ [MO.lst (((List.range n).map fun p : Nat => dg (p : Int)).map PV.str)] = S2 at x2 g2 g12 ⊢
  have x12 := x1.trans x2
  -- the words that are no figures
  refine sret ⟨_, rfl, ⟨_, g12⟩, _, g12, ?_⟩
  refine runLc_pure (f := fun x => x) (g := fun p => match p with | .str w => !decide (w ∈ (List.range n).map fun p : Nat => dg (p : Int)) | _ => false) g12 _ [] (fun y hy Q' q' => ?_) (fun y hy _ Q' q' => ⟨_, rfl, q'⟩) (by rw [List.length_map]; show 0 + _ < _; omega) ?_
  · obtain ⟨w, hw, rfl⟩ := List.mem_map.mp hy
    refine ⟨_, rfl, _, rfl, _, g2, rfl, flat_strs _, ?_⟩
    rw [if_pos rfl, in_strs]
    exact ⟨_, rfl, q'⟩
  have ef : [] ++ ((ws.map PV.str).filter (fun p => match p with | .str w => !decide (w ∈ (List.range n).map fun p : Nat => dg (p : Int)) | _ => false)).map (fun x => x) = (ws.filter fun w => !decide (w ∈ (List.range n).map fun p : Nat => dg (p : Int))).map PV.str := by
    rw [List.nil_append, List.map_id', List.filter_map]; rfl
  rw [ef]
  refine ⟨Nat.zero_le _, ?_⟩
  generalize hbs : ws.filter (fun w => !decide (w ∈ (List.range n).map fun p : Nat => dg (p : Int))) = bs
  refine ⟨_, _, .lst ((sl_end _ _).app _) (pdts_strs _ _), .lst (sl_end _ _) .nil, shaped54 _ (fun w hw => hwa w (by rw [← hbs] at hw; exact (List.mem_filter.mp hw).1)), by decide, ?_⟩
  rw [eqv_nil, List.isEmpty_map, if_pos rfl]
  have x3 := x12.trans ((Ext.app S2 [MO.lst (bs.map PV.str)]).trans (Ext.app _ [MO.lst []]))
  have x23 := (Ext.app S2 [MO.lst (bs.map PV.str)]).trans (Ext.app _ [MO.lst []])
  have g13 := x23.sl g12
  have g23 := x23.sl g2
  generalize (S2 ++ [MO.lst (bs.map PV.str)]) ++ [MO.lst []] = S3 at x3 g13 g23 ⊢
  cases hb : bs.isEmpty with
  | false =>
    obtain ⟨w, hw⟩ : ∃ w, w ∈ bs := by
      cases bs with
      | nil => exact nomatch hb
      | cons w _ => exact ⟨w, List.mem_cons_self⟩
    rw [← hbs] at hw
    obtain ⟨hw1, hw2⟩ := List.mem_filter.mp hw
    rw [Bool.not_eq_true', decide_eq_false_iff_not, below_mem] at hw2
    have qn : Q .non S3 := by
      have q3 := q S3 x3
      by_cases hall : (ws.all fun w => decide (w ∈ figs)) = true
      · rw [if_pos hall] at q3
        have := of_decide_eq_true (List.all_eq_true.mp hall w hw1)
        rw [figs_eq] at this
        obtain ⟨p, hp, rfl⟩ := below_mem.mp this
        rw [if_neg] at q3
        · exact q3
        · rw [set_far (List.mem_map_of_mem hw1) (by rw [val_dg hp]; exact Int.ofNat_le.mpr (Nat.le_of_not_lt fun h => hw2 ⟨p, h, rfl⟩))]
          decide
      · rw [if_neg hall] at q3
        exact q3
    exact ⟨_, rfl, iteT qn⟩
  | true =>
  have hbs0 : bs = [] := List.isEmpty_iff.mp hb
  rw [hbs0] at hbs
  obtain ⟨ps, rfl, hps⟩ := words_ps (n := n) fun w hw => by
    have := List.filter_eq_nil_iff.mp hbs w hw
    rw [Bool.not_eq_true, Bool.not_eq_false', decide_eq_true_eq] at this
    exact below_mem.mp this
  refine ⟨_, rfl, iteF (sa ⟨_, rfl, ⟨_, g13⟩, _, g13, ?_⟩)⟩
  refine runLc_map (f := whP n) g13 _ (fun x hx Q' q' => ?_) (by rw [List.length_map]; omega) ?_
  · obtain ⟨w, hw, rfl⟩ := List.mem_map.mp hx
    obtain ⟨p, hp, rfl⟩ := List.mem_map.mp hw
    have hpn := hps p hp
    have q' : Q' (.int (val (dg (p : Nat)))) S3 := q'
    rw [val_dg (by omega)] at q'
    refine ⟨_, rfl, ⟨_, g23⟩, _, rfl, _, p, .str (dg (p : Nat)), g23, rfl, flat_strs _, ?_, ?_, fun j z hj hz => ?_, q'⟩
    · rw [List.getElem?_map, List.getElem?_map, List.getElem?_range hpn]; rfl
    · unfold eqP; exact beq_self_eq_true _
    · rw [List.getElem?_map, List.getElem?_map, List.getElem?_range (Nat.lt_trans hj hpn)] at hz
      cases hz
      unfold eqP
      refine beq_eq_false_iff_ne.mpr fun e => ?_
      have := dg_inj (by omega) (by omega) e
      omega
  have eu : (((ps.map fun p : Nat => dg (p : Int)).map PV.str).map (whP n)) = (ps.map fun p : Nat => (p : Int)).map PV.int := by
    rw [List.map_map, List.map_map, List.map_map]
    refine List.map_congr_left fun p hp => ?_
    have := hps p hp
    show PV.int (val (dg (p : Nat))) = _
    rw [val_dg (by omega)]; rfl
  have ev : (ps.map fun p : Nat => dg (p : Int)).map val = ps.map fun p : Nat => (p : Int) := by
    rw [List.map_map]
    refine List.map_congr_left fun p hp => ?_
    have := hps p hp
    exact val_dg (by omega)
  have hall : ((ps.map fun p : Nat => dg (p : Int)).all fun w => decide (w ∈ figs)) = true := by
    rw [List.all_eq_true]
    intro w hw
    obtain ⟨p, hp, rfl⟩ := List.mem_map.mp hw
    have := hps p hp
    exact decide_eq_true ((dg_of (by omega)).1)
  rw [if_pos hall, ev, set_strict ps hps] at q
  rw [eu]
  refine ⟨_, sl_end _ _, ?_⟩
  have x4 := x3.trans (Ext.app S3 [MO.lst ((ps.map fun p : Nat => (p : Int)).map PV.int)])
  generalize S3 ++ [MO.lst ((ps.map fun p : Nat => (p : Int)).map PV.int)] = S4 at x4 ⊢
  refine ⟨_, rfl, _, rfl, _, rfl, _, rfl, by rw [List.length_map] at hwl ⊢; omega, fun ns m1 m2 => ?_⟩
  refine ⟨_, _, .lst ((sl_end _ _).app _) (pdts_ints _ _), .lst (sl_end _ _) (pdts_ints _ _), shaped_ints _, shaped_ints _, ?_⟩
  rw [if_neg (by decide)]
  have e9 : PyData.eqv (.list ((ps.map fun p : Nat => (p : Int)).map PyData.int)) (.list (ns.map PyData.int)) = decide ((ps.map fun p : Nat => (p : Int)) = ns) := eqv_ints _ _
  rw [e9]
  refine ⟨_, rfl, ?_⟩
  have x5 := x4.trans ((Ext.app S4 [MO.lst ((ps.map fun p : Nat => (p : Int)).map PV.int)]).trans (Ext.app _ [MO.lst (ns.map PV.int)]))
  have q5 := q _ x5
  rw [← decide_eq_decide.mpr (strict_eq m1 m2)] at q5
  by_cases he : (ps.map fun p : Nat => (p : Int)) = ns
  · rw [decide_eq_true he] at q5 ⊢
    exact iteT ⟨_, rfl, q5⟩
  · rw [decide_eq_false he] at q5 ⊢
    exact iteF q5
end M

namespace k09
open PySem L2 M
variable [Tabs]
def sp_is_whole : PSp := sp11_is_whole
def sp_is_number_below : PSp := sp11_is_number_below
def sp_is_set : PSp := sp11_is_set
def sp_l_feed : PSp := sp0_feed
def sp_l_draw : PSp := sp0_draw
def sp_l_set : PSp := sp5_set
theorem len_is_whole : ∀ vs S Q, sp_is_whole vs S Q → vs.length = 1 := len11_is_whole
theorem rd_is_whole : ∀ vs S Q, sp_is_whole vs S Q → w_is_whole { nx := fun _ S' => Q .non S', rt := Q } (startP N_is_whole vs) S := rd11_is_whole
theorem len_is_number_below : ∀ vs S Q, sp_is_number_below vs S Q → vs.length = 2 := len11_is_number_below
theorem rd_is_number_below : ∀ vs S Q, sp_is_number_below vs S Q → w_is_number_below sp_is_whole { nx := fun _ S' => Q .non S', rt := Q } (startP N_is_number_below vs) S := rd11_is_number_below
theorem len_is_set : ∀ vs S Q, sp_is_set vs S Q → vs.length = 2 := len11_is_set
theorem rd_is_set : ∀ vs S Q, sp_is_set vs S Q → w_is_set sp_is_number_below { nx := fun _ S' => Q .non S', rt := Q } (startP N_is_set vs) S := rd11_is_set
theorem len_l_feed : ∀ vs S Q, sp_l_feed vs S Q → vs.length = 1 := len0_feed
theorem rd_l_feed : ∀ vs S Q, sp_l_feed vs S Q → w_l_feed { nx := fun _ S' => Q .non S', rt := Q } (startP N_l_feed vs) S := rd0_feed
theorem len_l_draw : ∀ vs S Q, sp_l_draw vs S Q → vs.length = 2 := len0_draw
theorem rd_l_draw : ∀ vs S Q, sp_l_draw vs S Q → w_l_draw { nx := fun _ S' => Q .non S', rt := Q } (startP N_l_draw vs) S := rd0_draw
theorem len_l_set : ∀ vs S Q, sp_l_set vs S Q → vs.length = 1 := len5_set
theorem rd_l_set : ∀ vs S Q, sp_l_set vs S Q → w_l_set { nx := fun _ S' => Q .non S', rt := Q } (startP N_l_set vs) S := rd5_set
end k09

namespace k09
open PySem L2 M
variable [Tabs]
def sp_set_text : PSp := sp32_set_text
theorem len_set_text : ∀ vs S Q, sp_set_text vs S Q → vs.length = 1 := len32_set_text
theorem rd_set_text : ∀ vs S Q, sp_set_text vs S Q → w_set_text { nx := fun _ S' => Q .non S', rt := Q } (startP N_set_text vs) S := rd32_set_text
def sp_read_set : PSp := sp54_read_set
theorem len_read_set : ∀ vs S Q, sp_read_set vs S Q → vs.length = 2 := len54_read_set
theorem rd_read_set : ∀ vs S Q, sp_read_set vs S Q → w_read_set sp_is_set { nx := fun _ S' => Q .non S', rt := Q } (startP N_read_set vs) S := rd54_read_set
def sp_l_read : PSp := sp54_l_read
theorem len_l_read : ∀ vs S Q, sp_l_read vs S Q → vs.length = 2 := len54_l_read
theorem rd_l_read : ∀ vs S Q, sp_l_read vs S Q → w_l_read { nx := fun _ S' => Q .non S', rt := Q } (startP N_l_read vs) S := rd54_l_read
/-! ### texts spoilt -/
theorem at_one {α : Type} {L : List α} {i : Int} (h0 : 0 ≤ i) (h1 : i < L.length) : ∃ x ∈ L, atI L i = some x := by
  obtain ⟨k, rfl⟩ := Int.eq_ofNat_of_zero_le h0
  have hk : k < L.length := by omega
  refine ⟨L[k], List.getElem_mem hk, ?_⟩
  unfold atI ixN
  rw [if_pos h0, if_pos h1, Option.bind_some, Int.toNat_natCast, List.getElem?_eq_getElem hk]
theorem asc_sign {z : Str} (h : ascS z = true) {c : Nat} (hc : c ∈ z.cps.toList) : ascS ⟨#[c]⟩ = true := by
  have := List.all_eq_true.mp h c hc
  show ([c].all fun c => decide (c < 128)) = true
  rw [List.all_cons, this]; rfl
abbrev signs : Str := Str.ofString " !\"#$&'()*+,-./0123456789:;<=>?@ABCDEFGHIJKLMNOPQRSTUVWXYZ[\\]^_`"
abbrev small : Str := Str.ofString "abcdefghijklmnopqrstuvwxyz{|}~"
theorem signs_ok : (signs ++ small).cps.toList.length = 94 ∧ ascS (signs ++ small) = true := by decide +kernel
def sp_l_signed : PSp := fun vs S Q => ∃ (m T : Nat) (a : Str), vs = [.ref m, .str a] ∧ a.length ≤ 300 ∧ ascS a = true ∧ T < 900000 ∧ Feed S m T ∧ ∀ (b : Str) (S' : Sto), Grow m S S' → Feed S' m (T + 3) → b.length ≤ 2 * a.length + 1 → ascS b = true → Q (.str b) S'
theorem len_l_signed : ∀ vs S Q, sp_l_signed vs S Q → vs.length = 2 := by rintro _ S Q ⟨m, T, a, rfl, _⟩; rfl
theorem rd_l_signed : ∀ vs S Q, sp_l_signed vs S Q → w_l_signed sp_l_draw { nx := fun _ S' => Q .non S', rt := Q } (startP N_l_signed vs) S := by
  rintro _ S Q ⟨m, T, a, rfl, ha, hA, hT, F, q⟩
  have big : ∀ {n : Nat}, n ≤ 10000 → n ≤ sizeLine := fun h => Nat.le_trans h (by decide)
  refine sa (sa ⟨_, rfl, big (show signs.length + small.length ≤ 10000 by decide +kernel), ?_⟩)
  show wSeq _ _ _ [some (.ref m), some (.str a), some (.str (signs ++ small)), none, none, none] S
  obtain ⟨s1, s2⟩ := signs_ok
  generalize signs ++ small = z at s1 s2 ⊢
  have zl : z.length = 94 := s1
  refine sa ⟨_, rfl, m, T, 3, rfl, by decide, by decide, by omega, F, fun w S1 hw0 hw G1 F1 => ?_⟩
  refine sa ⟨_, rfl, _, rfl, big (by omega), m, T + 1, ((a.length : Nat) : Int) + 1, rfl, by omega, by omega, by omega, F1, fun p S2 hp0 hp G2 F2 => ?_⟩
  refine sa ⟨_, rfl, _, rfl, m, T + 2, 94, rfl, by decide, by decide, by omega, F2, fun i S3 hi0 hi G3 F3 => ?_⟩
  obtain ⟨c, hc, hat⟩ := at_one (L := z.cps.toList) hi0 (by rw [s1]; exact hi)
  refine ⟨c, big (by omega), hat, ?_⟩
  have hcA := asc_sign s2 hc
  have hcl : (⟨#[c]⟩ : Str).length = 1 := rfl
  generalize (⟨#[c]⟩ : Str) = x at hcA hcl ⊢
  obtain ⟨w, rfl⟩ := Int.eq_ofNat_of_zero_le hw0
  refine ⟨_, rfl, _, rfl, _, rfl, big (by omega), ?_⟩
  dsimp only [bSl, wNoPart, wNil]
  refine ⟨_, rfl, _, rfl, sz (by decide : 3 ≤ 1000), _, rfl, at_pick (sl_end _ _) (show w < 3 by omega) fun y hy => ?_⟩
  have x4 := Ext.app S3 [MO.lst [PV.str x, .str (Str.ofString ""), .str x]]
  generalize S3 ++ [MO.lst [PV.str x, .str (Str.ofString ""), .str x]] = S4 at x4 ⊢
  obtain ⟨v, rfl, hv, hvl⟩ : ∃ v, y = .str v ∧ ascS v = true ∧ v.length ≤ 1 := by
    simp only [List.mem_cons, List.not_mem_nil, or_false] at hy
    rcases hy with rfl | rfl | rfl
    · exact ⟨_, rfl, hcA, by omega⟩
    · exact ⟨_, rfl, by decide +kernel, by decide +kernel⟩
    · exact ⟨_, rfl, hcA, by omega⟩
  have c1 := cutS_length a none (some p)
  refine ⟨big (by omega), ?_⟩
  have fin : ∀ lo : Int, (cutS a none (some p) ++ v).length + (cutS a (some lo) none).length ≤ sizeLine ∧ Q (.str (cutS a none (some p) ++ v ++ cutS a (some lo) none)) S4 := fun lo => by
    have c2 := cutS_length a (some lo) none
    refine ⟨big (by rw [Str.length_append]; omega), q _ _ (((G1.trans G2).trans G3).trans (x4.grow m)) (F3.ext x4) (by rw [Str.length_append, Str.length_append]; omega) (ascS_app (ascS_app (ascS_cut hA _ _) hv) (ascS_cut hA _ _))⟩
  refine ⟨_, rfl, _, rfl, _, rfl, ?_⟩
  exact ⟨_, rfl, big (by omega), fin _⟩
end k09

namespace k09
open PySem L2 M
variable [Tabs]
theorem cut_strs (ws : List Str) (lo hi : Option Int) : ∃ us : List Str, us.Sublist ws ∧ cutP (ws.map PV.str) lo hi = us.map PV.str := by
  unfold cutP
  rw [List.length_map, ← List.map_drop, ← List.map_take]
  exact ⟨_, (List.take_sublist _ _).trans (List.drop_sublist _ _), rfl⟩
theorem feed_ne9 {S : Sto} {m T p : Nat} {xs : List PV} (F : Feed S m T) (g : S[p]? = some (.lst xs)) : p ≠ m := fun e => F.nosl xs (by rw [← e]; exact .inl g)
def odd1 : List Str := [Str.ofString "", Str.ofString "-", Str.ofString ",", Str.ofString "0", Str.ofString "--", Str.ofString "-,0", Str.ofString "0,-", Str.ofString "00", Str.ofString "0,1,2,3,4,5,6,7", Str.ofString "8", Str.ofString "0, 1", Str.ofString " 0"]
def odd2 : List Str := [Str.ofString "1,0", Str.ofString "0,0", Str.ofString "0,"]
theorem odd_ok : (odd1 ++ odd2).all (fun s => decide (s.length ≤ 20) && ascS s) = true := by decide +kernel
/-- the parts, when they were changed -/
def Parts (S : Sto) (p k : Nat) : Prop := ∃ ys : List Str, S[p]? = some (.lst (ys.map PV.str)) ∧ wt54 ys ≤ k ∧ ∀ y ∈ ys, ascS y = true
def sp_l_spoilt : PSp := fun vs S Q => ∃ (m T : Nat) (a : Str), vs = [.ref m, .str a] ∧ a.length ≤ 300 ∧ ascS a = true ∧ T < 800000 ∧ Feed S m T ∧ ∀ (b : Str) (S' : Sto), Grow m S S' → Feed S' m (T + 4) → b.length ≤ 3 * a.length + 20 → ascS b = true → Q (.str b) S'
theorem len_l_spoilt : ∀ vs S Q, sp_l_spoilt vs S Q → vs.length = 2 := by rintro _ S Q ⟨m, T, a, rfl, _⟩; rfl
theorem rd_l_spoilt : ∀ vs S Q, sp_l_spoilt vs S Q → w_l_spoilt sp_l_draw sp_l_signed { nx := fun _ S' => Q .non S', rt := Q } (startP N_l_spoilt vs) S := by
  rintro _ S Q ⟨m, T, a, rfl, ha, hA, hT, F, q⟩
  have big : ∀ {n : Nat}, n ≤ 10000 → n ≤ sizeLine := fun h => Nat.le_trans h (by decide)
  refine sa ⟨_, rfl, m, T, 7, rfl, by decide, by decide, by omega, F, fun w S1 hw0 hw G1 F1 => ?_⟩
  refine sret ⟨_, rfl, _, rfl, ?_⟩
  by_cases h3 : w < 3
  · rw [decide_eq_true h3]
    exact iteT ⟨_, rfl, _, rfl, m, T + 1, a, rfl, ha, hA, by omega, F1, fun b S2 G2 F2 hb hB => q b S2 (G1.trans G2) (F2.mono (by omega)) (by omega) hB⟩
  rw [decide_eq_false h3]
  refine iteF (sifn ⟨_, rfl, _, rfl, ?_⟩)
  by_cases h6 : w = 6
  · rw [show (decide (w = 6) ^^ false) = true by rw [decide_eq_true h6]; rfl]
    refine iteT (sa ⟨sz (by decide : 12 ≤ 1000), ?_⟩)
    have g2 := get_end S1 (MO.lst (odd1.map PV.str))
    have x2 := Ext.app S1 [MO.lst (odd1.map PV.str)]
    show wRet _ _ (List.set _ 4 (some (.ref S1.length))) (S1 ++ [MO.lst (odd1.map PV.str)])
    generalize S1.length = p2 at g2 ⊢
    generalize S1 ++ [MO.lst (odd1.map PV.str)] = S2 at g2 x2 ⊢
    have g3 := get_end S2 (MO.lst (odd2.map PV.str))
    have x3 := Ext.app S2 [MO.lst (odd2.map PV.str)]
    refine ⟨_, rfl, sz (by decide : 3 ≤ 1000), ?_⟩
    show bAdd (.ref p2) (.ref S2.length) (S2 ++ [MO.lst (odd2.map PV.str)]) _
    refine ⟨_, _, x3.keep _ _ g2, g3, sz (by show odd1.length + odd2.length ≤ 1000; decide), ?_⟩
    have x4 := (x2.trans x3).trans (Ext.app _ [MO.lst (odd1.map PV.str ++ odd2.map PV.str)])
    have g4 := get_end (S2 ++ [MO.lst (odd2.map PV.str)]) (MO.lst (odd1.map PV.str ++ odd2.map PV.str))
    generalize (S2 ++ [MO.lst (odd2.map PV.str)]).length = p4 at g4 ⊢
    generalize (S2 ++ [MO.lst (odd2.map PV.str)]) ++ [MO.lst (odd1.map PV.str ++ odd2.map PV.str)] = S4 at x4 g4 ⊢
    have F4 := F1.ext x4
    refine ⟨_, rfl, m, T + 1, 15, rfl, by decide, by decide, by omega, F4, fun r S5 hr0 hr G5 F5 => ?_⟩
    obtain ⟨r, rfl⟩ := Int.eq_ofNat_of_zero_le hr0
    have ne : p4 ≠ m := feed_ne9 F4 g4
    refine at_pick (.inl (G5.keep _ _ ne g4)) (by show r < odd1.length + odd2.length; show r < 15; omega) fun y hy => ?_
    rw [← List.map_append] at hy
    obtain ⟨s, hs, rfl⟩ := List.mem_map.mp hy
    have := List.all_eq_true.mp odd_ok s hs
    rw [Bool.and_eq_true, decide_eq_true_eq] at this
    exact q s S5 ((G1.trans (x4.grow m)).trans G5) (F5.mono (by omega)) (by omega) this.2
  rw [show (decide (w = 6) ^^ false) = false by rw [decide_eq_false h6]; rfl]
  refine iteF (sa ⟨_, rfl, trivial, by decide, big (by omega), ?_⟩)
  have hwt := split_wt a
  have hwp := PyProof.Rows.split_pos a comma
  have hwl := wt_len (Txt.split a comma)
  have hwa := split_asc hA
  generalize Txt.split a comma = ws at hwt hwp hwl hwa ⊢
  have g2 := get_end S1 (MO.lst (ws.map PV.str))
  have x2 := Ext.app S1 [MO.lst (ws.map PV.str)]
  show wSeq _ _ _ [some (.ref m), some (.str a), some (.int w), some (.ref S1.length), none, none, none] (S1 ++ [MO.lst (ws.map PV.str)])
  have hp2 : S.length ≤ S1.length := G1.len
  have hm2 : m < S1.length := F1.lt
  generalize S1.length = p2 at g2 hp2 hm2 ⊢
  generalize S1 ++ [MO.lst (ws.map PV.str)] = S2 at g2 x2 ⊢
  have F2 := F1.ext x2
  have ne2 : p2 ≠ m := feed_ne9 F2 g2
  have ll : (ws.map PV.str).length = ws.length := List.length_map _
  refine join (fun fr S' => ∃ i j : Nat, i < ws.length ∧ j < ws.length ∧ fr = [some (.ref m), some (.str a), some (.int w), some (.ref p2), none, some (.int (i : Nat)), some (.int (j : Nat))] ∧ S'[p2]? = some (.lst (ws.map PV.str)) ∧ Grow m S S' ∧ Feed S' m (T + 3)) (fun N hN => ?_) ?_
  · refine ⟨_, rfl, _, rfl, .inl ⟨_, .inl g2, m, T + 1, ((ws.map PV.str).length : Int), rfl, by omega, by omega, by omega, F2, fun i S3 hi0 hi G3 F3 => ?_⟩⟩
    have g3 := G3.keep _ _ ne2 g2
    refine ⟨_, rfl, _, rfl, .inl ⟨_, .inl g3, m, T + 2, ((ws.map PV.str).length : Int), rfl, by omega, by omega, by omega, F3, fun j S4 hj0 hj G4 F4 => ?_⟩⟩
    obtain ⟨i, rfl⟩ := Int.eq_ofNat_of_zero_le hi0
    obtain ⟨j, rfl⟩ := Int.eq_ofNat_of_zero_le hj0
    exact ⟨_, _, rfl, hN _ _ ⟨i, j, by omega, by omega, rfl, G4.keep _ _ ne2 g3, ((G1.trans (x2.grow m)).trans G3).trans G4, F4⟩⟩
  rintro _ S3 ⟨i, j, hi, hj, rfl, g3, G3, F3⟩
  refine join (fun fr S' => ∃ (p' : Nat), fr = [some (.ref m), some (.str a), some (.int w), some (.ref p'), none, some (.int (i : Nat)), some (.int (j : Nat))] ∧ Parts S' p' (3 * (a.length + 1)) ∧ Grow m S S' ∧ Feed S' m (T + 3)) (fun N hN => ?_) ?_
  · have two : ∀ us vs : List Str, us.Sublist ws → vs.Sublist ws → wt54 (us ++ vs) ≤ 3 * (a.length + 1) ∧ ∀ y ∈ us ++ vs, ascS y = true := fun us vs h1 h2 => by
      have := wt_sub h1
      have := wt_sub h2
      refine ⟨by rw [wt_app]; omega, fun y hy => ?_⟩
      rcases (List.mem_append.mp hy) with hy | hy
      · exact hwa y (h1.subset hy)
      · exact hwa y (h2.subset hy)
    have add : ∀ (lo hi : Option Int) (lo' hi' : Option Int), bAdd (.ref S3.length) (.ref (S3 ++ [MO.lst (cutP (ws.map PV.str) lo hi)]).length) ((S3 ++ [MO.lst (cutP (ws.map PV.str) lo hi)]) ++ [MO.lst (cutP (ws.map PV.str) lo' hi')]) fun x S' => N [some (.ref m), some (.str a), some (.int w), some x, none, some (.int (i : Nat)), some (.int (j : Nat))] S' := fun lo hi lo' hi' => by
      obtain ⟨us, h1, e1⟩ := cut_strs ws lo hi
      obtain ⟨vs, h2, e2⟩ := cut_strs ws lo' hi'
      rw [e1, e2]
      have gx := get_end S3 (MO.lst (us.map PV.str))
      have xx := Ext.app S3 [MO.lst (us.map PV.str)]
      generalize S3.length = pu at gx ⊢
      generalize S3 ++ [MO.lst (us.map PV.str)] = S4 at gx xx ⊢
      have gy := get_end S4 (MO.lst (vs.map PV.str))
      have xy := Ext.app S4 [MO.lst (vs.map PV.str)]
      have gx' := xy.keep _ _ gx
      generalize S4.length = pv at gy ⊢
      generalize S4 ++ [MO.lst (vs.map PV.str)] = S5 at gy gx' xy ⊢
      obtain ⟨t1, t2⟩ := two us vs h1 h2
      have tl := wt_len (us ++ vs)
      rw [List.length_append] at tl
      refine ⟨_, _, gx', gy, big (by rw [List.length_map, List.length_map]; omega), ?_⟩
      have xz := (xx.trans xy).trans (Ext.app S5 [MO.lst (us.map PV.str ++ vs.map PV.str)])
      exact hN _ _ ⟨_, rfl, ⟨us ++ vs, by rw [List.map_append]; exact get_end _ _, t1, t2⟩, G3.trans (xz.grow m), F3.ext xz⟩
    refine ⟨_, rfl, _, rfl, ?_⟩
    by_cases w3 : w = 3
    · rw [show (decide (w = 3) ^^ false) = true by rw [decide_eq_true w3]; rfl]
      refine iteT ⟨_, rfl, _, rfl, _, rfl, ?_⟩
      dsimp only [bSl, wNoPart, wNil]
      refine ⟨_, .inl g3, ?_⟩
      refine ⟨_, rfl, _, rfl, _, rfl, ?_⟩
      dsimp only [bSl, wNoPart, wNil]
      exact ⟨_, .inl ((Ext.app S3 _).keep _ _ g3), add _ _ _ _⟩
    rw [show (decide (w = 3) ^^ false) = false by rw [decide_eq_false w3]; rfl]
    refine iteF ⟨_, rfl, _, rfl, ?_⟩
    by_cases w4 : w = 4
    · rw [show (decide (w = 4) ^^ false) = true by rw [decide_eq_true w4]; rfl]
      refine iteT ⟨_, rfl, _, rfl, _, rfl, ?_⟩
      dsimp only [bSl, wNoPart, wNil]
      refine ⟨_, .inl g3, ?_⟩
      refine ⟨_, rfl, _, rfl, _, rfl, ?_⟩
      dsimp only [bSl, wNoPart, wNil]
      exact ⟨_, .inl ((Ext.app S3 _).keep _ _ g3), add _ _ _ _⟩
    rw [show (decide (w = 4) ^^ false) = false by rw [decide_eq_false w4]; rfl]
    have ai : atI (ws.map PV.str) ((i : Nat) : Int) = some (.str ws[i]) := atI_nat (by rw [List.getElem?_map, List.getElem?_eq_getElem hi]; rfl)
    have aj : atI (ws.map PV.str) ((j : Nat) : Int) = some (.str ws[j]) := atI_nat (by rw [List.getElem?_map, List.getElem?_eq_getElem hj]; rfl)
    have ix : ∀ {L k : Nat}, k < L → ixN L ((k : Nat) : Int) = some k := fun {L k} h => by
      unfold ixN
      rw [if_pos (by omega), if_pos (by omega), Int.toNat_natCast]
    refine iteF ⟨_, rfl, _, rfl, _, _, .inl g3, aj, _, rfl, _, rfl, _, _, .inl g3, ai, sz (by decide : 2 ≤ 1000), _, rfl, rfl, _, _, rfl, ?_⟩
    refine ⟨_, rfl, _, rfl, p2, _, _, i, rfl, rfl, g3, ix (by omega), ?_⟩
    refine ⟨_, _, rfl, _, rfl, _, rfl, p2, _, _, j, rfl, rfl, List.getElem?_set_self (lt_len g3), ix (by rw [List.length_set]; omega), rfl, ?_⟩
    have es : ((ws.map PV.str).set i (.str ws[j])).set j (.str ws[i]) = ((ws.set i ws[j]).set j ws[i]).map PV.str := by rw [List.map_set, List.map_set]
    rw [es]
    have l1 := wt_mem (List.getElem_mem hi)
    have l2 := wt_mem (List.getElem_mem hj)
    have s1 := wt_set (t := ws[j]) ws i
    have s2 := wt_set (t := ws[i]) (ws.set i ws[j]) j
    refine hN _ _ ⟨p2, rfl, ⟨(ws.set i ws[j]).set j ws[i], ?_, by omega, fun y hy => ?_⟩, ?_, ?_⟩
    · rw [List.getElem?_set_self (by rw [List.length_set]; exact lt_len g3)]
    · rcases List.mem_or_eq_of_mem_set hy with hy | rfl
      · rcases List.mem_or_eq_of_mem_set hy with hy | rfl
        · exact hwa y hy
        · exact hwa _ (List.getElem_mem hj)
      · exact hwa _ (List.getElem_mem hi)
    · exact (G3.setN hp2 _).setN hp2 _
    · exact (F3.setN hm2 _).setN hm2 _
  rintro _ S4 ⟨p', rfl, ⟨ys, g4, hy, hya⟩, G4, F4⟩
  have hl4 := wt_len ys
  have jl := join_le ys
  refine ⟨trivial, _, rfl, ys, .inl g4, ?_, ?_⟩
  · have hc : comma.length = 1 := by decide
    show _ + _ * comma.length ≤ _
    rw [hc]
    unfold wt54 at hy
    omega
  · exact q _ S4 G4 (F4.mono (by omega)) (by show (Txt.join comma ys).length ≤ _; omega) (tjoin_asc hya)
end k09

namespace k09
open PySem L2 M
variable [Tabs]
theorem log2_le9 {a b : Nat} (h : a ≤ b) : a.log2 ≤ b.log2 := by
  by_cases h0 : a = 0
  · rw [h0]; exact Nat.zero_le _
  · exact (Nat.le_log2 (by omega)).mpr (Nat.le_trans (Nat.log2_self_le h0) h)
theorem n_tg9 {ms : List Nat} {S : Sto} {n : Nat} (h : n ≤ 15) : Tg ms S (.int (n : Nat)) 6 0 := by
  have h1 := log2_le9 h
  have e : Nat.log2 15 = 3 := by decide +kernel
  exact (Tg.int (n : Nat)).up (by show n.log2 + 3 ≤ 6; omega) (by show n.log2 / 40 ≤ 0; omega)
theorem zs_tg9 {ms : List Nat} {S : Sto} : ∀ {zs : List Int}, (∀ z ∈ zs, 0 ≤ z ∧ z ≤ 15) → Tgs ms S (zs.map PV.int) (8 * zs.length) 0
  | [], _ => Tgs.nil.up (Nat.zero_le _) (Nat.zero_le _)
  | z :: zs, h => by
    obtain ⟨h0, h1⟩ := h z List.mem_cons_self
    obtain ⟨n, rfl⟩ := Int.eq_ofNat_of_zero_le h0
    exact (Tgs.cons (n_tg9 (by omega)) (zs_tg9 fun x hx => h x (List.mem_cons_of_mem _ hx))).up (by rw [List.length_cons]; omega) (by omega)
theorem rd_tg {S : Sto} {n : Nat} {a : Str} (hn : n ≤ 8) (ha : a.length ≤ 300) : Tg [] S (rdV n a) 3000 1 := by
  unfold rdV
  split
  · exact (Tg.tup Tgs.nil).up (by decide) (by decide)
  · split
    · split
      · rename_i h
        have hs := ((goB_iff _ _).mp (show goB (n : Nat) (-1) (((Txt.split a comma).map val).map PV.int) = true from h)).2
        have hw := split_wt a
        have hl := wt_len (Txt.split a comma)
        exact (Tg.tup (zs_tg9 fun z hz => by have := hs z hz; omega)).up (by rw [List.length_map]; omega) (by decide)
      · exact Tg.non.up (by decide) (by decide)
    · exact Tg.non.up (by decide) (by decide)
theorem tx_asc : (List.range 256).all (fun c => ascS (tx c)) = true := by decide +kernel
theorem set_n {n c : Nat} (hn : n ≤ 8) (hc : c < 256) : rdV n (tx c) = if setB (n : Nat) (sv c) = true then sv c else .non := by
  unfold rdV
  by_cases h0 : c = 0
  · subst h0
    rw [if_pos tx_0]
    have e : bset 8 0 = [] := by decide +kernel
    have e2 : sv 0 = .tup [] := by unfold sv; rw [e]; rfl
    rw [e2, if_pos (show setB (n : Nat) (.tup []) = true from rfl)]
  · rw [if_neg (tx_d h0 hc), tx_s h0 hc]
    have hall : ((bset 8 c).map dg).all (fun w => decide (w ∈ figs)) = true := by
      rw [List.all_eq_true]
      intro w hw
      obtain ⟨i, hi, rfl⟩ := List.mem_map.mp hw
      obtain ⟨p, rfl, hp⟩ := bset_p hi
      exact (decide_eq_true (dg_of (by omega)).1)
    have ev : ((bset 8 c).map dg).map val = bset 8 c := by
      rw [List.map_map]
      refine (List.map_congr_left fun i hi => ?_).trans (List.map_id _)
      obtain ⟨p, rfl, hp⟩ := bset_p hi
      exact val_dg (by omega)
    rw [if_pos hall, ev]; rfl
theorem most_n {n c : Nat} (hc : c < 256) {m : Int} (hm : m ∈ bset 8 c ++ [-1]) (hy : ∀ y ∈ bset 8 c ++ [-1], y ≤ m) : decide (m < (n : Int)) = setB (n : Nat) (sv c) := by
  rw [Bool.eq_iff_iff, decide_eq_true_eq]
  refine Iff.trans ?_ (goB_iff (bset 8 c) (-1)).symm
  have hp : ∀ z ∈ bset 8 c, 0 ≤ z := fun z hz => by
    obtain ⟨p, rfl, _⟩ := bset_p hz
    omega
  constructor
  · intro h
    refine ⟨bset_sorted 8 c, fun z hz => ?_⟩
    have := hy z (List.mem_append_left _ hz)
    have := hp z hz
    omega
  · rintro ⟨_, h⟩
    rcases (List.mem_append.mp hm) with hm | hm
    · exact (h m hm).2.2
    · rw [List.mem_singleton.mp hm]; omega
theorem law_len {a : Nat} (h : a ≤ 3000) : a ≤ sizeLine := Nat.le_trans h (by decide)
theorem rd_law : ∀ vs S Q, spLaw vs S Q → w_law sp_l_feed sp_l_draw sp_l_set sp_set_text sp_read_set sp_l_spoilt sp_l_read { nx := fun _ S' => Q .non S', rt := Q } (startP N_law vs) S := by
  intro vs S Q h
  obtain ⟨p0, ns, rfl, hl, hp0, q⟩ := law_in h
  have z1 : 1 ≤ sizeLine := sz (by decide : 1 ≤ 1000)
  have z2 : 2 ≤ sizeLine := sz (by decide : 2 ≤ 1000)
  refine sa ⟨_, rfl, p0, ns, rfl, hl, hp0, fun m S1 _ _ _ F1 => ?_⟩
  refine sfor ⟨6, rfl, ⟨by decide, by decide⟩, ?_⟩
  refine its_by (fun xs fr S' => ∃ (T : Nat) (a2 a3 a4 a5 a6 a7 a8 a9 a10 : Option PV), fr = [some p0, some (.ref m), a2, a3, a4, a5, a6, a7, a8, a9, a10] ∧ Feed S' m T ∧ T + 20 * xs.length ≤ 200) ?_ ?_ ⟨0, none, none, none, none, none, none, none, none, none, rfl, F1, by decide⟩
  · rintro fr S2 ⟨T, a2, a3, a4, a5, a6, a7, a8, a9, a10, rfl, F2, hT⟩
    exact q S2
  rintro x r fr S2 K hK ⟨T, a2, a3, a4, a5, a6, a7, a8, a9, a10, rfl, F2, hT⟩
  rw [List.length_cons] at hT
  refine sa ⟨_, rfl, m, T, 3, rfl, by decide, by decide, by omega, F2, fun sp S3 hs0 hs G3 F3 => ?_⟩
  obtain ⟨sp, rfl⟩ := Int.eq_ofNat_of_zero_le hs0
  refine sa ⟨_, rfl, m, T + 1, 256, rfl, by decide, by decide, by omega, F3, fun c S4 hc0 hc G4 F4 => ?_⟩
  obtain ⟨c, rfl⟩ := Int.eq_ofNat_of_zero_le hc0
  have hc : c < 256 := by omega
  refine ⟨c, rfl, fun S5 x5 => ?_⟩
  have F5 := F4.ext x5
  have hA : ascS (tx c) = true := List.all_eq_true.mp tx_asc c (List.mem_range.mpr hc)
  have hL := tx_l hc
  -- the text
  refine join (fun fr S' => fr = [some p0, some (.ref m), some x, some (.int (sp : Nat)), some (sv c), some (.str (tx c)), a6, a7, a8, a9, a10] ∧ Feed S' m (T + 2)) (fun N hN => ?_) ?_
  · refine ⟨_, rfl, Nat.zero_le _, ?_⟩
    refine ⟨.tuple (dts (bset 8 c)), .tuple [], .tup (pdts_ints _ _), .tup .nil, shaped_row _, by decide, ?_⟩
    have e0 : PyData.eqv (.tuple (dts (bset 8 c))) (.tuple []) = decide (bset 8 c = []) := eqv_ints _ []
    rw [if_pos rfl, e0]
    refine ⟨_, rfl, ?_⟩
    by_cases h0 : c = 0
    · subst h0
      have e : bset 8 0 = [] := by decide +kernel
      rw [decide_eq_true e]
      exact iteF (hN _ _ ⟨rfl, F5⟩)
    · rw [decide_eq_false (bset_ne h0 hc)]
      refine iteT ⟨trivial, _, rfl, ?_⟩
      refine runLc_map (f := strP) trivial ((bset 8 c).map PV.int) (fun x hx Q' q' => ?_) (by rw [List.length_map]; have := bset_length 8 c; omega) ?_
      · obtain ⟨i, h, rfl⟩ := List.mem_map.mp hx
        obtain ⟨p, rfl, hp⟩ := bset_p h
        exact ⟨_, rfl, log_small (by omega) (by omega), q'⟩
      · rw [str_map]
        refine ⟨(bset 8 c).map dg, sl_end _ _, join_len, ?_⟩
        rw [← tx_n h0]
        exact hN _ _ ⟨rfl, F5.app _⟩
  rintro _ S6 ⟨rfl, F6⟩
  refine sret ⟨_, rfl, c, rfl, hc, fun S7 x7 => ⟨_, rfl, _, rfl, ?_⟩⟩
  rw [decide_eq_true rfl]
  refine iteF ?_
  have F7 := F6.ext x7
  -- as it was written
  refine join (fun fr S' => ∃ o6 o9 : Option PV, fr = [some p0, some (.ref m), some x, some (.int (sp : Nat)), some (sv c), some (.str (tx c)), o6, a7, a8, o9, a10] ∧ Feed S' m (T + 3)) (fun N hN => ?_) ?_
  · refine ⟨_, rfl, m, T + 2, 9, rfl, by decide, by decide, by omega, F7, fun n1 S8 hn0 hn G8 F8 => ⟨z2, ?_⟩⟩
    obtain ⟨n1, rfl⟩ := Int.eq_ofNat_of_zero_le hn0
    refine its_by (fun xs fr S' => ∃ o6 o9 : Option PV, fr = [some p0, some (.ref m), some x, some (.int (sp : Nat)), some (sv c), some (.str (tx c)), o6, a7, a8, o9, a10] ∧ (∀ y ∈ xs, ∃ n : Nat, y = .int (n : Nat) ∧ n ≤ 8) ∧ Feed S' m (T + 3)) ?_ ?_ ⟨_, _, rfl, fun y hy => ?_, F8⟩
    · rintro fr S9 ⟨o6, o9, rfl, _, F9⟩
      exact hN _ _ ⟨o6, o9, rfl, F9⟩
    · rintro y r2 fr S9 K2 hK2 ⟨o6, o9, rfl, hy, F9⟩
      obtain ⟨n, rfl, hn⟩ := hy y List.mem_cons_self
      have er := set_n hn hc
      refine join (fun fr S' => fr = [some p0, some (.ref m), some x, some (.int (sp : Nat)), some (sv c), some (.str (tx c)), some (.int (n : Nat)), a7, a8, some (rdV n (tx c)), a10] ∧ S' = S9) (fun N2 hN2 => ?_) ?_
      · refine ⟨_, rfl, z1, law_len (show ((bset 8 c).map PV.int).length + 1 ≤ 3000 by rw [List.length_map]; have := bset_length 8 c; omega), bset 8 c ++ [-1], by rw [List.map_append]; rfl, by rw [List.length_append]; exact Nat.succ_pos _, fun k hk hmax => ?_⟩
        refine ⟨_, rfl, _, rfl, ?_⟩
        rw [most_n hc hk hmax]
        by_cases hs : setB (n : Nat) (sv c) = true
        · rw [hs]
          rw [if_pos hs] at er
          exact iteT ⟨_, rfl, hN2 _ _ ⟨by rw [er]; rfl, rfl⟩⟩
        · rw [Bool.eq_false_iff.mpr hs]
          rw [if_neg hs] at er
          exact iteF (hN2 _ _ ⟨by rw [er]; rfl, rfl⟩)
      rintro _ _ ⟨rfl, rfl⟩
      rename_i S9
      obtain ⟨d, pd, sz9⟩ := (rd_tg (S := S9) (a := tx c) hn (by omega)).dt
      have sm := sz9.sm (by decide)
      have dp := Nat.le_trans sm.dp (show _ ≤ 50 by decide)
      refine sret1 ⟨_, rfl, _, rfl, n, tx c, rfl, hn, by omega, hA, fun S10 x10 => ?_⟩
      have pd10 : PDt S10 (rdV n (tx c)) d := pd.mv fun _ _ z => x10.sl z
      refine ⟨d, pd10, sm.sh, dp, repr_len pd10 sm (by decide), _, rfl, d, pd10, sm.sh, dp, repr_len pd10 sm (by decide), _, rfl, ?_⟩
      rw [decide_eq_true rfl]
      exact iteF (hK2 _ _ ⟨_, _, rfl, fun z hz => hy z (List.mem_cons_of_mem _ hz), F9.ext x10⟩)
    · simp only [List.mem_cons, List.not_mem_nil, or_false] at hy
      rcases hy with rfl | rfl
      · exact ⟨8, rfl, Nat.le_refl 8⟩
      · exact ⟨n1, rfl, by omega⟩
  rintro _ S8 ⟨o6, o9, rfl, F8⟩
  refine sa ⟨_, rfl, m, T + 3, 9, rfl, by decide, by decide, by omega, F8, fun n S9 hn0 hn G9 F9 => ?_⟩
  obtain ⟨n, rfl⟩ := Int.eq_ofNat_of_zero_le hn0
  have hn : n ≤ 8 := by omega
  -- spoilt
  refine join (fun fr S' => ∃ (a : Str) (o7 : Option PV), fr = [some p0, some (.ref m), some x, some (.int (sp : Nat)), some (sv c), some (.str a), some (.int (n : Nat)), o7, a8, o9, a10] ∧ a.length ≤ 300 ∧ ascS a = true ∧ Feed S' m (T + 12)) (fun N hN => ?_) ?_
  · refine ⟨_, rfl, (sp : Nat), rfl, ⟨by omega, by omega⟩, ?_⟩
    refine its_by (fun xs fr S' => ∃ (a : Str) (k : Nat) (o7 : Option PV), fr = [some p0, some (.ref m), some x, some (.int (sp : Nat)), some (sv c), some (.str a), some (.int (n : Nat)), o7, a8, o9, a10] ∧ (k = 0 ∧ a.length ≤ 20 ∧ xs.length ≤ 2 ∨ k = 1 ∧ a.length ≤ 80 ∧ xs.length ≤ 1 ∨ k = 2 ∧ a.length ≤ 260 ∧ xs.length = 0) ∧ ascS a = true ∧ Feed S' m (T + 4 + 4 * k)) ?_ ?_ ⟨tx c, 0, _, rfl, .inl ⟨rfl, hL, by rw [rangeP_length]; omega⟩, hA, F9⟩
    · rintro fr S10 ⟨a, k, o7, rfl, hk, ha, F10⟩
      exact hN _ _ ⟨a, o7, rfl, by omega, ha, F10.mono (by omega)⟩
    · rintro y r2 fr S10 K2 hK2 ⟨a, k, o7, rfl, hk, ha, F10⟩
      rw [List.length_cons] at hk
      refine ⟨_, rfl, _, rfl, m, T + 4 + 4 * k, a, rfl, by omega, ha, by omega, F10, fun b S11 G11 F11 hb hB => ?_⟩
      exact hK2 _ _ ⟨b, k + 1, _, rfl, by omega, hB, F11.mono (by omega)⟩
  rintro _ S10 ⟨a, o7, rfl, ha, hA2, F10⟩
  obtain ⟨d, pd, sz9⟩ := (rd_tg (S := S10) (a := a) hn ha).dt
  have sm := sz9.sm (by decide)
  have dp := Nat.le_trans sm.dp (show _ ≤ 50 by decide)
  refine ⟨2, rfl, ⟨by decide, by decide⟩, ?_⟩
  refine its_by (fun xs fr S' => ∃ o8 : Option PV, fr = [some p0, some (.ref m), some x, some (.int (sp : Nat)), some (sv c), some (.str a), some (.int (n : Nat)), o7, o8, o9, a10] ∧ Ext S10 S') ?_ ?_ ⟨_, rfl, .refl _⟩
  · rintro fr S11 ⟨o8, rfl, x11⟩
    exact hK _ _ ⟨T + 12, _, _, _, _, _, _, _, _, _, rfl, F10.ext x11, by omega⟩
  · rintro y r2 fr S11 K2 hK2 ⟨o8, rfl, x11⟩
    refine sret1 ⟨_, rfl, _, rfl, n, a, rfl, hn, ha, hA2, fun S12 x12 => ?_⟩
    have pd12 : PDt S12 (rdV n a) d := pd.mv fun _ _ z => (x11.trans x12).sl z
    refine ⟨d, pd12, sm.sh, dp, repr_len pd12 sm (by decide), _, rfl, _, rfl, n, a, rfl, hn, ha, hA2, fun S13 x13 => ?_⟩
    have pd13 : PDt S13 (rdV n a) d := pd.mv fun _ _ z => ((x11.trans x12).trans x13).sl z
    refine ⟨d, pd13, sm.sh, dp, repr_len pd13 sm (by decide), _, rfl, ?_⟩
    rw [decide_eq_true rfl]
    exact iteF (hK2 _ _ ⟨_, rfl, (x11.trans x12).trans x13⟩)
theorem len_law : ∀ vs S Q, spLaw vs S Q → vs.length = 1 := by
  intro vs S Q h
  obtain ⟨p0, ns, rfl, _⟩ := law_in h
  rfl
end k09

namespace k09
open PySem PySem.Spec PyProof.Rows L2 M
theorem all_mk {l : PySem.W.OpenLaw} {w : World} {K : PySem.W.Frag} {h : Heap} {mg : Str → Option Value} {fa : Addr} (X : K.In h) (G : h.Ns mainGlobals mg) (hfa : mg "law" = some (.ref fa))
    {f_l_feed : Addr} {od_l_feed an_l_feed : Option Addr} {sl_l_feed : Array (Option Value)} {oc_l_feed kV_l_feed dc_l_feed pm_l_feed cd_l_feed ct_l_feed : Value}
    {f_l_draw : Addr} {od_l_draw an_l_draw : Option Addr} {sl_l_draw : Array (Option Value)} {oc_l_draw kV_l_draw dc_l_draw pm_l_draw cd_l_draw ct_l_draw : Value}
    {f_l_set : Addr} {od_l_set an_l_set : Option Addr} {sl_l_set : Array (Option Value)} {oc_l_set kV_l_set dc_l_set pm_l_set cd_l_set ct_l_set : Value}
    {f_set_text : Addr} {od_set_text an_set_text : Option Addr} {sl_set_text : Array (Option Value)} {oc_set_text kV_set_text dc_set_text pm_set_text cd_set_text ct_set_text : Value}
    {f_is_whole : Addr} {od_is_whole an_is_whole : Option Addr} {sl_is_whole : Array (Option Value)} {oc_is_whole kV_is_whole dc_is_whole pm_is_whole cd_is_whole ct_is_whole : Value}
    {f_is_number_below : Addr} {od_is_number_below an_is_number_below : Option Addr} {sl_is_number_below : Array (Option Value)} {oc_is_number_below kV_is_number_below dc_is_number_below pm_is_number_below cd_is_number_below ct_is_number_below : Value}
    {f_is_set : Addr} {od_is_set an_is_set : Option Addr} {sl_is_set : Array (Option Value)} {oc_is_set kV_is_set dc_is_set pm_is_set cd_is_set ct_is_set : Value}
    {f_read_set : Addr} {od_read_set an_read_set : Option Addr} {sl_read_set : Array (Option Value)} {oc_read_set kV_read_set dc_read_set pm_read_set cd_read_set ct_read_set : Value}
    {tc_read_set tP_read_set : Addr} {tcl_read_set : Value} {tod_read_set : Option Addr} {tvs_read_set : Array Value} {tsl_read_set : Array (Option Value)}
    {f_l_signed : Addr} {od_l_signed an_l_signed : Option Addr} {sl_l_signed : Array (Option Value)} {oc_l_signed kV_l_signed dc_l_signed pm_l_signed cd_l_signed ct_l_signed : Value}
    {f_l_spoilt : Addr} {od_l_spoilt an_l_spoilt : Option Addr} {sl_l_spoilt : Array (Option Value)} {oc_l_spoilt kV_l_spoilt dc_l_spoilt pm_l_spoilt cd_l_spoilt ct_l_spoilt : Value}
    {f_l_read : Addr} {od_l_read an_l_read : Option Addr} {sl_l_read : Array (Option Value)} {oc_l_read kV_l_read dc_l_read pm_l_read cd_l_read ct_l_read : Value}
    {f_law : Addr} {od_law an_law : Option Addr} {sl_law : Array (Option Value)} {oc_law kV_law dc_law pm_law cd_law ct_law : Value}
    {ad_FIGURES : Addr} {its_FIGURES : Array Value} {nn_FIGURES : Nat} {sl_FIGURES : Array (Option Value)}
    {tk_EMPTY : Nat}
    (a_l_feed : PySem.W.nsIn K mainGlobals "_law_feed" = some (some (.ref f_l_feed))) (l_l_feed : K.lookup f_l_feed = some ⟨oc_l_feed, od_l_feed, .func (PySem.W.fnOf "_law_feed" "_law_feed" (defArgs s_l_feed) (defBody s_l_feed) (defScope s_l_feed) .none kV_l_feed dc_l_feed pm_l_feed an_l_feed cd_l_feed ct_l_feed), sl_l_feed⟩) (c_l_feed : PySem.W.codeIn K cd_l_feed "_law_feed" = true) (k_l_feed : PySem.W.keepIn K (.ref f_l_feed) = true)
    (a_l_draw : PySem.W.nsIn K mainGlobals "_law_draw" = some (some (.ref f_l_draw))) (l_l_draw : K.lookup f_l_draw = some ⟨oc_l_draw, od_l_draw, .func (PySem.W.fnOf "_law_draw" "_law_draw" (defArgs s_l_draw) (defBody s_l_draw) (defScope s_l_draw) .none kV_l_draw dc_l_draw pm_l_draw an_l_draw cd_l_draw ct_l_draw), sl_l_draw⟩) (c_l_draw : PySem.W.codeIn K cd_l_draw "_law_draw" = true) (k_l_draw : PySem.W.keepIn K (.ref f_l_draw) = true)
    (a_l_set : PySem.W.nsIn K mainGlobals "_law_set" = some (some (.ref f_l_set))) (l_l_set : K.lookup f_l_set = some ⟨oc_l_set, od_l_set, .func (PySem.W.fnOf "_law_set" "_law_set" (defArgs s_l_set) (defBody s_l_set) (defScope s_l_set) .none kV_l_set dc_l_set pm_l_set an_l_set cd_l_set ct_l_set), sl_l_set⟩) (c_l_set : PySem.W.codeIn K cd_l_set "_law_set" = true) (k_l_set : PySem.W.keepIn K (.ref f_l_set) = true)
    (a_set_text : PySem.W.nsIn K mainGlobals "set_text" = some (some (.ref f_set_text))) (l_set_text : K.lookup f_set_text = some ⟨oc_set_text, od_set_text, .func (PySem.W.fnOf "set_text" "set_text" (defArgs s_set_text) (defBody s_set_text) (defScope s_set_text) .none kV_set_text dc_set_text pm_set_text an_set_text cd_set_text ct_set_text), sl_set_text⟩) (c_set_text : PySem.W.codeIn K cd_set_text "set_text" = true) (k_set_text : PySem.W.keepIn K (.ref f_set_text) = true)
    (a_is_whole : PySem.W.nsIn K mainGlobals "is_whole" = some (some (.ref f_is_whole))) (l_is_whole : K.lookup f_is_whole = some ⟨oc_is_whole, od_is_whole, .func (PySem.W.fnOf "is_whole" "is_whole" (defArgs s_is_whole) (defBody s_is_whole) (defScope s_is_whole) .none kV_is_whole dc_is_whole pm_is_whole an_is_whole cd_is_whole ct_is_whole), sl_is_whole⟩) (c_is_whole : PySem.W.codeIn K cd_is_whole "is_whole" = true) (k_is_whole : PySem.W.keepIn K (.ref f_is_whole) = true)
    (a_is_number_below : PySem.W.nsIn K mainGlobals "is_number_below" = some (some (.ref f_is_number_below))) (l_is_number_below : K.lookup f_is_number_below = some ⟨oc_is_number_below, od_is_number_below, .func (PySem.W.fnOf "is_number_below" "is_number_below" (defArgs s_is_number_below) (defBody s_is_number_below) (defScope s_is_number_below) .none kV_is_number_below dc_is_number_below pm_is_number_below an_is_number_below cd_is_number_below ct_is_number_below), sl_is_number_below⟩) (c_is_number_below : PySem.W.codeIn K cd_is_number_below "is_number_below" = true) (k_is_number_below : PySem.W.keepIn K (.ref f_is_number_below) = true)
    (a_is_set : PySem.W.nsIn K mainGlobals "is_set" = some (some (.ref f_is_set))) (l_is_set : K.lookup f_is_set = some ⟨oc_is_set, od_is_set, .func (PySem.W.fnOf "is_set" "is_set" (defArgs s_is_set) (defBody s_is_set) (defScope s_is_set) .none kV_is_set dc_is_set pm_is_set an_is_set cd_is_set ct_is_set), sl_is_set⟩) (c_is_set : PySem.W.codeIn K cd_is_set "is_set" = true) (k_is_set : PySem.W.keepIn K (.ref f_is_set) = true)
    (a_read_set : PySem.W.nsIn K mainGlobals "read_set" = some (some (.ref f_read_set))) (l_read_set : K.lookup f_read_set = some ⟨oc_read_set, od_read_set, .func (PySem.W.fnOf "read_set" "read_set" (defArgs s_read_set) (defBody s_read_set) (defScope s_read_set) .none kV_read_set dc_read_set pm_read_set an_read_set cd_read_set ct_read_set), sl_read_set⟩) (c_read_set : PySem.W.codeIn K cd_read_set "read_set" = true) (k_read_set : PySem.W.keepIn K (.ref f_read_set) = true)
    (e_read_set : cd_read_set = .ref tc_read_set) (g_read_set : K.lookup tc_read_set = some ⟨tcl_read_set, tod_read_set, .fields tvs_read_set, tsl_read_set⟩) (v_read_set : tvs_read_set[11]? = some (.ref tP_read_set)) (t_read_set : PySem.W.tabIn K "read_set" = some (tc_read_set, tP_read_set)) (h_read_set : PySem.W.codeHdIn K tc_read_set tP_read_set = true)
    (a_l_signed : PySem.W.nsIn K mainGlobals "_law_signed" = some (some (.ref f_l_signed))) (l_l_signed : K.lookup f_l_signed = some ⟨oc_l_signed, od_l_signed, .func (PySem.W.fnOf "_law_signed" "_law_signed" (defArgs s_l_signed) (defBody s_l_signed) (defScope s_l_signed) .none kV_l_signed dc_l_signed pm_l_signed an_l_signed cd_l_signed ct_l_signed), sl_l_signed⟩) (c_l_signed : PySem.W.codeIn K cd_l_signed "_law_signed" = true) (k_l_signed : PySem.W.keepIn K (.ref f_l_signed) = true)
    (a_l_spoilt : PySem.W.nsIn K mainGlobals "_law_spoilt" = some (some (.ref f_l_spoilt))) (l_l_spoilt : K.lookup f_l_spoilt = some ⟨oc_l_spoilt, od_l_spoilt, .func (PySem.W.fnOf "_law_spoilt" "_law_spoilt" (defArgs s_l_spoilt) (defBody s_l_spoilt) (defScope s_l_spoilt) .none kV_l_spoilt dc_l_spoilt pm_l_spoilt an_l_spoilt cd_l_spoilt ct_l_spoilt), sl_l_spoilt⟩) (c_l_spoilt : PySem.W.codeIn K cd_l_spoilt "_law_spoilt" = true) (k_l_spoilt : PySem.W.keepIn K (.ref f_l_spoilt) = true)
    (a_l_read : PySem.W.nsIn K mainGlobals "_law_read" = some (some (.ref f_l_read))) (l_l_read : K.lookup f_l_read = some ⟨oc_l_read, od_l_read, .func (PySem.W.fnOf "_law_read" "_law_read" (defArgs s_l_read) (defBody s_l_read) (defScope s_l_read) .none kV_l_read dc_l_read pm_l_read an_l_read cd_l_read ct_l_read), sl_l_read⟩) (c_l_read : PySem.W.codeIn K cd_l_read "_law_read" = true) (k_l_read : PySem.W.keepIn K (.ref f_l_read) = true)
    (a_law : PySem.W.nsIn K mainGlobals "law" = some (some (.ref f_law))) (l_law : K.lookup f_law = some ⟨oc_law, od_law, .func (PySem.W.fnOf "law" "law" (defArgs s_law) (defBody s_law) (defScope s_law) .none kV_law dc_law pm_law an_law cd_law ct_law), sl_law⟩) (c_law : PySem.W.codeIn K cd_law "law" = true) (k_law : PySem.W.keepIn K (.ref f_law) = true)
    (z_all : PySem.W.nsIn K mainGlobals "all" = some none)
    (z_bool : PySem.W.nsIn K mainGlobals "bool" = some none)
    (z_int : PySem.W.nsIn K mainGlobals "int" = some none)
    (z_isinstance : PySem.W.nsIn K mainGlobals "isinstance" = some none)
    (z_len : PySem.W.nsIn K mainGlobals "len" = some none)
    (z_list : PySem.W.nsIn K mainGlobals "list" = some none)
    (z_max : PySem.W.nsIn K mainGlobals "max" = some none)
    (z_range : PySem.W.nsIn K mainGlobals "range" = some none)
    (z_repr : PySem.W.nsIn K mainGlobals "repr" = some none)
    (z_set : PySem.W.nsIn K mainGlobals "set" = some none)
    (z_sorted : PySem.W.nsIn K mainGlobals "sorted" = some none)
    (z_str : PySem.W.nsIn K mainGlobals "str" = some none)
    (z_tuple : PySem.W.nsIn K mainGlobals "tuple" = some none)
    (y_FIGURES : PySem.W.nsIn K mainGlobals "FIGURES" = some (some (.ref ad_FIGURES))) (l_FIGURES : K.lookup ad_FIGURES = some ⟨.type "tuple", none, .seq its_FIGURES nn_FIGURES, sl_FIGURES⟩) (hz_FIGURES : its_FIGURES.size ≤ sizeLine) (v_FIGURES : Vals (([(Str.ofString "0"), (Str.ofString "1"), (Str.ofString "2"), (Str.ofString "3"), (Str.ofString "4"), (Str.ofString "5"), (Str.ofString "6"), (Str.ofString "7"), (Str.ofString "8")] : List Str).map V.str) its_FIGURES.toList)
    (y_EMPTY : PySem.W.nsIn K mainGlobals "EMPTY" = some (some (.str (Str.ofString "-") tk_EMPTY)))
    (n_tabs : PySem.W.noTabs K = true)
    : PySem.W.noTabs K = true ∧ ∃ fd : FuncData, (∀ (s : Shared) (v : Value), BindsTo s fd ⟨[v], []⟩ [("_law_script", v)]) ∧ ∀ base : Heap, K.In base → base.Ns mainGlobals mg → BMod mg base → FnOk l.prog w K mg base CX0 5 fa fd ["_law_script"] (@liftSp (TabsOf K ["read_set"]) K spLaw) := by
  letI : Tabs := TabsOf K ["read_set"]
  have e := hfa.symm.trans (PySem.W.mg_of X G a_law)
  cases e
  have B : Blt K mg := ⟨trivial, PySem.W.mg_none_of X G z_all, PySem.W.mg_none_of X G z_bool, PySem.W.mg_none_of X G z_int, PySem.W.mg_none_of X G z_isinstance, PySem.W.mg_none_of X G z_len, PySem.W.mg_none_of X G z_list, PySem.W.mg_none_of X G z_max, PySem.W.mg_none_of X G z_range, PySem.W.mg_none_of X G z_repr, PySem.W.mg_none_of X G z_set, PySem.W.mg_none_of X G z_sorted, PySem.W.mg_none_of X G z_str, PySem.W.mg_none_of X G z_tuple, ⟨_, PySem.W.mg_of X G y_FIGURES, _, its_FIGURES, nn_FIGURES, l_FIGURES, ⟨rfl, rfl⟩, rfl, hz_FIGURES, v_FIGURES⟩, ⟨_, PySem.W.mg_of X G y_EMPTY⟩⟩
  have F_l_feed := fun_mk (st := s_l_feed) l_l_feed c_l_feed k_l_feed
  have b_l_feed := F_l_feed.binds (ps := ["_law_script"]) fun _ _ _ _ _ _ us hl => match us, hl with | [_], _ => rfl
  have F_l_draw := fun_mk (st := s_l_draw) l_l_draw c_l_draw k_l_draw
  have b_l_draw := F_l_draw.binds (ps := ["_law_feed_here", "_law_many"]) fun _ _ _ _ _ _ us hl => match us, hl with | [_, _], _ => rfl
  have F_l_set := fun_mk (st := s_l_set) l_l_set c_l_set k_l_set
  have b_l_set := F_l_set.binds (ps := ["_law_code"]) fun _ _ _ _ _ _ us hl => match us, hl with | [_], _ => rfl
  have F_set_text := fun_mk (st := s_set_text) l_set_text c_set_text k_set_text
  have b_set_text := F_set_text.binds (ps := ["some"]) fun _ _ _ _ _ _ us hl => match us, hl with | [_], _ => rfl
  have F_is_whole := fun_mk (st := s_is_whole) l_is_whole c_is_whole k_is_whole
  have b_is_whole := F_is_whole.binds (ps := ["thing"]) fun _ _ _ _ _ _ us hl => match us, hl with | [_], _ => rfl
  have F_is_number_below := fun_mk (st := s_is_number_below) l_is_number_below c_is_number_below k_is_number_below
  have b_is_number_below := F_is_number_below.binds (ps := ["thing", "many"]) fun _ _ _ _ _ _ us hl => match us, hl with | [_, _], _ => rfl
  have F_is_set := fun_mk (st := s_is_set) l_is_set c_is_set k_is_set
  have b_is_set := F_is_set.binds (ps := ["n", "thing"]) fun _ _ _ _ _ _ us hl => match us, hl with | [_, _], _ => rfl
  have F_read_set := fun_mk (st := s_read_set) l_read_set c_read_set k_read_set
  have b_read_set := F_read_set.binds (ps := ["n", "text"]) fun _ _ _ _ _ _ us hl => match us, hl with | [_, _], _ => rfl
  have F_l_signed := fun_mk (st := s_l_signed) l_l_signed c_l_signed k_l_signed
  have b_l_signed := F_l_signed.binds (ps := ["_law_feed_here", "_law_text"]) fun _ _ _ _ _ _ us hl => match us, hl with | [_, _], _ => rfl
  have F_l_spoilt := fun_mk (st := s_l_spoilt) l_l_spoilt c_l_spoilt k_l_spoilt
  have b_l_spoilt := F_l_spoilt.binds (ps := ["_law_feed_here", "_law_text"]) fun _ _ _ _ _ _ us hl => match us, hl with | [_, _], _ => rfl
  have F_l_read := fun_mk (st := s_l_read) l_l_read c_l_read k_l_read
  have b_l_read := F_l_read.binds (ps := ["_law_n", "_law_text"]) fun _ _ _ _ _ _ us hl => match us, hl with | [_, _], _ => rfl
  have F_law := fun_mk (st := s_law) l_law c_law k_law
  refine ⟨n_tabs, PySem.W.fnOf "law" "law" (defArgs s_law) (defBody s_law) (defScope s_law) .none kV_law dc_law pm_law an_law cd_law ct_law, fun s v => .of_eq rfl, fun base _ _ bm => ?_⟩
  have q_l_feed : FnOk l.prog w K mg base CX0 1 _ _ _ (liftSp K sp_l_feed) := ok_l_feed F_l_feed B  len_l_feed rd_l_feed
  have G_l_feed : Fn l.prog w K mg base 1 "_law_feed" sp_l_feed := fn_mk q_l_feed (PySem.W.mg_of X G a_l_feed) k_l_feed b_l_feed
  have q_l_draw : FnOk l.prog w K mg base CX0 1 _ _ _ (liftSp K sp_l_draw) := ok_l_draw F_l_draw B  len_l_draw rd_l_draw
  have G_l_draw : Fn l.prog w K mg base 1 "_law_draw" sp_l_draw := fn_mk q_l_draw (PySem.W.mg_of X G a_l_draw) k_l_draw b_l_draw
  have q_l_set : FnOk l.prog w K mg base CX0 1 _ _ _ (liftSp K sp_l_set) := ok_l_set F_l_set B  len_l_set rd_l_set
  have G_l_set : Fn l.prog w K mg base 1 "_law_set" sp_l_set := fn_mk q_l_set (PySem.W.mg_of X G a_l_set) k_l_set b_l_set
  have q_set_text : FnOk l.prog w K mg base CX0 1 _ _ _ (liftSp K sp_set_text) := ok_set_text F_set_text B  len_set_text rd_set_text
  have G_set_text : Fn l.prog w K mg base 1 "set_text" sp_set_text := fn_mk q_set_text (PySem.W.mg_of X G a_set_text) k_set_text b_set_text
  have q_is_whole : FnOk l.prog w K mg base CX0 1 _ _ _ (liftSp K sp_is_whole) := ok_is_whole F_is_whole B  len_is_whole rd_is_whole
  have G_is_whole : Fn l.prog w K mg base 1 "is_whole" sp_is_whole := fn_mk q_is_whole (PySem.W.mg_of X G a_is_whole) k_is_whole b_is_whole
  have q_is_number_below : FnOk l.prog w K mg base CX0 2 _ _ _ (liftSp K sp_is_number_below) := ok_is_number_below F_is_number_below B G_is_whole len_is_number_below rd_is_number_below
  have G_is_number_below : Fn l.prog w K mg base 2 "is_number_below" sp_is_number_below := fn_mk q_is_number_below (PySem.W.mg_of X G a_is_number_below) k_is_number_below b_is_number_below
  have q_is_set : FnOk l.prog w K mg base CX0 3 _ _ _ (liftSp K sp_is_set) := ok_is_set F_is_set B G_is_number_below len_is_set rd_is_set
  have G_is_set : Fn l.prog w K mg base 3 "is_set" sp_is_set := fn_mk q_is_set (PySem.W.mg_of X G a_is_set) k_is_set b_is_set
  have q_read_set : FnOk l.prog w K mg base CX0 4 _ _ _ (liftSp K sp_read_set) := ok_read_set F_read_set B bm ⟨tc_read_set, tP_read_set, e_read_set, h_read_set, "read_set", by simp, tc_read_set, t_read_set⟩ G_is_set len_read_set rd_read_set
  have G_read_set : Fn l.prog w K mg base 4 "read_set" sp_read_set := fn_mk q_read_set (PySem.W.mg_of X G a_read_set) k_read_set b_read_set
  have q_l_signed : FnOk l.prog w K mg base CX0 2 _ _ _ (liftSp K sp_l_signed) := ok_l_signed F_l_signed B G_l_draw len_l_signed rd_l_signed
  have G_l_signed : Fn l.prog w K mg base 2 "_law_signed" sp_l_signed := fn_mk q_l_signed (PySem.W.mg_of X G a_l_signed) k_l_signed b_l_signed
  have q_l_spoilt : FnOk l.prog w K mg base CX0 3 _ _ _ (liftSp K sp_l_spoilt) := ok_l_spoilt F_l_spoilt B G_l_draw G_l_signed len_l_spoilt rd_l_spoilt
  have G_l_spoilt : Fn l.prog w K mg base 3 "_law_spoilt" sp_l_spoilt := fn_mk q_l_spoilt (PySem.W.mg_of X G a_l_spoilt) k_l_spoilt b_l_spoilt
  have q_l_read : FnOk l.prog w K mg base CX0 1 _ _ _ (liftSp K sp_l_read) := ok_l_read F_l_read B  len_l_read rd_l_read
  have G_l_read : Fn l.prog w K mg base 1 "_law_read" sp_l_read := fn_mk q_l_read (PySem.W.mg_of X G a_l_read) k_l_read b_l_read
  exact ok_law F_law B G_l_feed G_l_draw G_l_set G_set_text G_read_set G_l_spoilt G_l_read len_law rd_law
end k09
open PySem PySem.W PyProof.Rows
set_option maxRecDepth 100000 in
set_option maxHeartbeats 0 in
theorem PySem.Challenge.cw_rivalsets_k09_sets_written_and_read_holds : PySem.Challenge.rw_rivalsets_k09_sets_written_and_read.Holds := by
  w_on; o_law; k_head; (case hw => w_witness2)
  k_fill
  refine M.walk_ofT (l := PySem.Challenge.rw_rivalsets_k09_sets_written_and_read) (n := 63) (k := 5) (x := "_law_script") (names := ["read_set"]) rfl (by decide) rfl ⟨rfl, by decide, by decide, rfl⟩ (fun w h Y => PySem.W.kIn_of Y) ?hnames ?F
  case hnames => exact (fun x hx => by simp only [List.mem_cons, List.not_mem_nil, or_false] at hx; subst hx <;> exact ⟨_, rfl⟩)
  case F =>
    intro w mg fa h KX G hmg
    refine' k09.all_mk KX G hmg ?a_l_feed ?l_l_feed ?c_l_feed ?k_l_feed ?a_l_draw ?l_l_draw ?c_l_draw ?k_l_draw ?a_l_set ?l_l_set ?c_l_set ?k_l_set ?a_set_text ?l_set_text ?c_set_text ?k_set_text ?a_is_whole ?l_is_whole ?c_is_whole ?k_is_whole ?a_is_number_below ?l_is_number_below ?c_is_number_below ?k_is_number_below ?a_is_set ?l_is_set ?c_is_set ?k_is_set ?a_read_set ?l_read_set ?c_read_set ?k_read_set ?e_read_set ?g_read_set ?v_read_set ?t_read_set ?h_read_set ?a_l_signed ?l_l_signed ?c_l_signed ?k_l_signed ?a_l_spoilt ?l_l_spoilt ?c_l_spoilt ?k_l_spoilt ?a_l_read ?l_l_read ?c_l_read ?k_l_read ?a_law ?l_law ?c_law ?k_law ?z_all ?z_bool ?z_int ?z_isinstance ?z_len ?z_list ?z_max ?z_range ?z_repr ?z_set ?z_sorted ?z_str ?z_tuple ?y_FIGURES ?l_FIGURES ?hz_FIGURES ?v_FIGURES ?y_EMPTY ?n_tabs
    (case a_l_feed => k_is)
    (case l_l_feed => k_is)
    (case c_l_feed => k_is)
    (case k_l_feed => k_is)
    (case a_l_draw => k_is)
    (case l_l_draw => k_is)
    (case c_l_draw => k_is)
    (case k_l_draw => k_is)
    (case a_l_set => k_is)
    (case l_l_set => k_is)
    (case c_l_set => k_is)
    (case k_l_set => k_is)
    (case a_set_text => k_is)
    (case l_set_text => k_is)
    (case c_set_text => k_is)
    (case k_set_text => k_is)
    (case a_is_whole => k_is)
    (case l_is_whole => k_is)
    (case c_is_whole => k_is)
    (case k_is_whole => k_is)
    (case a_is_number_below => k_is)
    (case l_is_number_below => k_is)
    (case c_is_number_below => k_is)
    (case k_is_number_below => k_is)
    (case a_is_set => k_is)
    (case l_is_set => k_is)
    (case c_is_set => k_is)
    (case k_is_set => k_is)
    (case a_read_set => k_is)
    (case l_read_set => k_is)
    (case c_read_set => k_is)
    (case k_read_set => k_is)
    (case e_read_set => rfl)
    (case g_read_set => k_is)
    (case v_read_set => rfl)
    (case t_read_set => kernel_rfl)
    (case h_read_set => kernel_rfl)
    (case a_l_signed => k_is)
    (case l_l_signed => k_is)
    (case c_l_signed => k_is)
    (case k_l_signed => k_is)
    (case a_l_spoilt => k_is)
    (case l_l_spoilt => k_is)
    (case c_l_spoilt => k_is)
    (case k_l_spoilt => k_is)
    (case a_l_read => k_is)
    (case l_l_read => k_is)
    (case c_l_read => k_is)
    (case k_l_read => k_is)
    (case a_law => k_is)
    (case l_law => k_is)
    (case c_law => k_is)
    (case k_law => k_is)
    (case z_all => k_is)
    (case z_bool => k_is)
    (case z_int => k_is)
    (case z_isinstance => k_is)
    (case z_len => k_is)
    (case z_list => k_is)
    (case z_max => k_is)
    (case z_range => k_is)
    (case z_repr => k_is)
    (case z_set => k_is)
    (case z_sorted => k_is)
    (case z_str => k_is)
    (case z_tuple => k_is)
    (case y_FIGURES => k_is)
    (case l_FIGURES => k_is)
    (case hz_FIGURES => decide +kernel)
    (case v_FIGURES => exact (.cons ⟨_, rfl⟩ (.cons ⟨_, rfl⟩ (.cons ⟨_, rfl⟩ (.cons ⟨_, rfl⟩ (.cons ⟨_, rfl⟩ (.cons ⟨_, rfl⟩ (.cons ⟨_, rfl⟩ (.cons ⟨_, rfl⟩ (.cons ⟨_, rfl⟩ .nil))))))))))
    (case y_EMPTY => k_is)
    (case n_tabs => kernel_rfl)
#print axioms PySem.Challenge.cw_rivalsets_k09_sets_written_and_read_holds


