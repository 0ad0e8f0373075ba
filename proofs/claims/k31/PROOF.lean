import PyProof.Rows.All
import Wide.All
import OpenK.AllK
import Wide.FinOn
import Lean
import PyProof.EqAt
import PyProof.EqKinds
import PyProof.TupleCall
import PyProof.StrLawsIn
import PyProof.CompFree
import PyProof.P3Eq
import PyProof.Draws
import PyProof.EnumMake
import PyProof.WalksMore
import KE.KDictOf
import PyProof.ZipIter
import PyProof.CollectIter
import PyProof.TupleOfGen
import PyProof.ListRange
import KE.KRevIter
import PyProof.CollectWalk
import PyProof.ListNew
import PyProof.Rows.SortShellK
import PyProof.Rows.SortStr
import KE.KDictSum
import PyProof.WalkInts
import PyProof.SeqI3
import KE.KIntText
import PyProof.AutoListH
import PyProof.ConsumeWalk
import PySem.Challenge.RW_breakwords_k31_settled_pairs_are_values
-- CHANGE: your row's module here, as the last of these rows
set_option Elab.async false
set_option linter.all false
set_option maxRecDepth 100000
/-! THE HAND LAYER, for ints, bools, texts, own classes, LISTS and tuples (index, slices, in, append, pop ..), calls, loops. Paste it whole ahead of your own text; what your proof does not reach may be deleted. -/
namespace L2
open PySem PySem.Spec PyProof.Rows

/-- a key: an int or a str -/
abbrev Key := Sum Int Str
def keyIs : Key → Value → Bool
  | .inl k, v => Value.isInt k v
  | .inr x, v => Value.isStrOf x v
def keyH (w : World) : Key → Int
  | .inl k => hashInt k
  | .inr x => hashStr w x
theorem keyIs_shape : ∀ {k : Key} {v : Value}, keyIs k v = true → (∃ i t, k = Sum.inl i ∧ v = Value.int i t) ∨ (∃ x t, k = Sum.inr x ∧ v = Value.str x t)
  | .inl i, v, h => by
    obtain ⟨t, e⟩ := Value.isInt_shape (k := i) (v := v) h
    exact .inl ⟨i, t, rfl, e⟩
  | .inr x, v, h => by
    obtain ⟨t, e⟩ := Value.isStrOf_shape (x := x) (v := v) h
    exact .inr ⟨x, t, rfl, e⟩
theorem keyIs_int (i : Int) (t : Tok) : keyIs (.inl i) (.int i t) = true := by simp [keyIs, Value.isInt]
theorem keyIs_str (x : Str) (t : Tok) : keyIs (.inr x) (.str x t) = true := by simp [keyIs, Value.isStrOf]
theorem key_ll (a b : Int) : decide ((Sum.inl a : Key) = Sum.inl b) = (a == b) := by
  by_cases e : a = b
  · subst e; simp
  · have h : ¬ (Sum.inl a : Key) = Sum.inl b := fun q => e (Sum.inl.inj q)
    rw [decide_eq_false h]
    exact (beq_eq_false_iff_ne.mpr e).symm
theorem key_rr (a b : Str) : decide ((Sum.inr a : Key) = Sum.inr b) = decide (a = b) := by
  by_cases e : a = b
  · subst e; simp
  · have h : ¬ (Sum.inr a : Key) = Sum.inr b := fun q => e (Sum.inr.inj q)
    rw [decide_eq_false h, decide_eq_false e]
theorem key_lr (a : Int) (b : Str) : decide ((Sum.inl a : Key) = Sum.inr b) = false := decide_eq_false (fun q => nomatch q)
theorem key_rl (a : Str) (b : Int) : decide ((Sum.inr a : Key) = Sum.inl b) = false := decide_eq_false (fun q => nomatch q)

def mixKind (prog : Program) (w : World) : PySem.KeyKind prog w Key where
  is := keyIs
  hash := keyH w
  inj := fun v a b ha hb => by
    rcases keyIs_shape ha with ⟨i, t, rfl, rfl⟩ | ⟨x, t, rfl, rfl⟩
    · rcases keyIs_shape hb with ⟨j, u, rfl, e⟩ | ⟨y, u, rfl, e⟩
      · injection e with e1 _; rw [e1]
      · exact nomatch e
    · rcases keyIs_shape hb with ⟨j, u, rfl, e⟩ | ⟨y, u, rfl, e⟩
      · exact nomatch e
      · injection e with e1 _; rw [e1]
  byValue := fun k v h => by
    rcases keyIs_shape h with ⟨i, t, rfl, rfl⟩ | ⟨x, t, rfl, rfl⟩ <;> rfl
  pyHash := fun hv h => by
    rcases keyIs_shape hv with ⟨i, t, rfl, rfl⟩ | ⟨x, t, rfl, rfl⟩
    · exact wpAny_pyHash_int h
    · exact wpAny_pyHash_str h
  eqBool := fun hu hv h => by
    rcases keyIs_shape hu with ⟨i, t, rfl, rfl⟩ | ⟨x, t, rfl, rfl⟩
    · rcases keyIs_shape hv with ⟨j, u, rfl, rfl⟩ | ⟨y, u, rfl, rfl⟩
      · rw [key_ll] at h; exact wpAny_eqBool_int h
      · rw [key_lr] at h; exact SeqAt.EqAt.int_str i t y u _ _ _ _ h
    · rcases keyIs_shape hv with ⟨j, u, rfl, rfl⟩ | ⟨y, u, rfl, rfl⟩
      · rw [key_rl] at h; exact SeqAt.EqAt.str_int x t j u _ _ _ _ h
      · rw [key_rr] at h; exact wpAny_eqBool_str h
  «strs» := fun k x t v h => by
    rcases keyIs_shape h with ⟨i, u, rfl, e⟩ | ⟨y, u, rfl, e⟩
    · exact nomatch e
    · injection e with e1 _
      subst e1
      cases v <;> rfl

theorem mixKind_int (prog : Program) (w : World) (i : Int) (t : Tok) : (mixKind prog w).is (.inl i) (.int i t) = true := keyIs_int i t
theorem mixKind_str (prog : Program) (w : World) (x : Str) (t : Tok) : (mixKind prog w).is (.inr x) (.str x t) = true := keyIs_str x t
end L2

namespace L2
open PySem PySem.Spec PyProof.Rows

/-- a value, without the heap -/
inductive V where
  | non | bl (b : Bool) | int (i : Int) | str (x : Str) | byt (b : Array UInt8) | flt (b : UInt64) | ref (a : Addr) | ty (n : String)
  deriving DecidableEq

def RelV : V → Value → Prop
  | .non, u => u = Value.none
  | .bl b, u => u = Value.bool b
  | .int i, u => ∃ t, u = Value.int i t
  | .str x, u => ∃ t, u = Value.str x t
  | .byt b, u => ∃ t, u = Value.bytes b t
  | .flt b, u => ∃ t, u = Value.float b t
  | .ref a, u => u = Value.ref a
  | .ty n, u => u = Value.type n

abbrev Vals : List V → List Value → Prop := Paired RelV
theorem Vals.length {xs : List V} {us : List Value} (r : Vals xs us) : xs.length = us.length := Paired.length r
theorem Vals.get : ∀ {xs : List V} {us : List Value} {i : Nat} {x : V}, Vals xs us → xs[i]? = some x → ∃ u, us[i]? = some u ∧ RelV x u
  | _, _, _, _, .nil, e => by simp at e
  | _, _, 0, _, .cons r _, e => by simp at e; subst e; exact ⟨_, rfl, r⟩
  | _, _, i + 1, x, .cons _ t, e => by
    obtain ⟨u, h1, h2⟩ := Vals.get (i := i) (x := x) t (by simpa using e)
    exact ⟨u, by simpa using h1, h2⟩
theorem Vals.set {x : V} {u : Value} (r : RelV x u) : ∀ {xs : List V} {us : List Value} (i : Nat), Vals xs us → Vals (xs.set i x) (us.set i u)
  | _, _, _, .nil => .nil
  | _, _, 0, .cons _ t => .cons r t
  | _, _, i + 1, .cons q t => .cons q (Vals.set r i t)
theorem Vals.append : ∀ {xs ys : List V} {us ws : List Value}, Vals xs us → Vals ys ws → Vals (xs ++ ys) (us ++ ws)
  | _, _, _, _, .nil, s => s
  | _, _, _, _, .cons r t, s => .cons r (Vals.append t s)
theorem Vals.take : ∀ {xs : List V} {us : List Value} (n : Nat), Vals xs us → Vals (xs.take n) (us.take n)
  | _, _, 0, _ => .nil
  | _, _, _ + 1, .nil => .nil
  | _, _, n + 1, .cons r t => .cons r (Vals.take n t)
theorem Vals.drop : ∀ {xs : List V} {us : List Value} (n : Nat), Vals xs us → Vals (xs.drop n) (us.drop n)
  | _, _, 0, r => r
  | _, _, _ + 1, .nil => .nil
  | _, _, n + 1, .cons _ t => Vals.drop n t

def RelO : Option V → Option Value → Prop
  | some v, some u => RelV v u
  | none, none => True
  | _, _ => False
def KV {κ : Type} : List (κ × V) → List (κ × Value) → Prop := Paired fun (p : κ × V) (q : κ × Value) => p.1 = q.1 ∧ RelV p.2 q.2

/-- a key of a dict (00_mix): an int or a text -/
def kV : Key → V
  | .inl i => .int i
  | .inr x => .str x

/-- what stands at a tracked address -/
inductive HO where
  /-- a list -/
  | lst (xs : List V)
  /-- a tuple (never changes) -/
  | tup (xs : List V)
  /-- a dict whose keys are ints and texts; one whose keys are tuples of ints and texts (the empty one is both) -/
  | dK (kvs : List (Key × V)) | dT (kvs : List (List Key × V))
  /-- a set of ints: its members, its size -/
  | set (S : Int → Bool) (n : Nat)
  /-- an instance of the class at C, its dict at dx, its attributes -/
  | ins (C dx : Addr) (fs : List (Str × V))
  /-- the dict of the instance at x -/
  | own (x : Addr)
  /-- the dict of an exception -/
  | xd (fs : List (Str × V))
  /-- a bound method, f of x -/
  | met (f x : Addr)
  /-- a range object lo, lo + 1, .. below hi -/
  | rng (lo hi : Int)
  /-- a thing that is known to the object (the script; a dict while a loop walks it): read, never written while it is so -/
  | frz (o : Obj) (u : HO)
  /-- a code object's table -/
  | tbl (ps : Array Value)
  /-- any other thing, by what is true of its one object (a def of one's own: SetO a S n := HO.ext fun h => ..) -/
  | ext (φ : Heap → Prop)

abbrev Hp := Addr → Option HO
def upd (H : Hp) (a : Addr) (o : HO) : Hp := fun b => if b = a then some o else H b
theorem upd_same {H : Hp} {a : Addr} {o : HO} : upd H a o a = some o := by unfold upd; rw [if_pos rfl]
theorem upd_ne {H : Hp} {a b : Addr} {o : HO} (h : b ≠ a) : upd H a o b = H b := by unfold upd; rw [if_neg h]
theorem upd_upd {H : Hp} {a : Addr} {o u : HO} : upd (upd H a o) a u = upd H a u := by
  funext b; unfold upd; split <;> rfl
/-- two objects of different content stand apart -/
theorem ne_of {H : Hp} {a b : Addr} {o u : HO} (h : H a = some o) (h' : H b = some u) (d : o ≠ u) : a ≠ b := by
  intro e; subst e; rw [h] at h'; exact d (Option.some.inj h')
theorem ne_of_none {H : Hp} {a b : Addr} {o : HO} (h : H a = some o) (h' : H b = none) : a ≠ b := by
  intro e; subst e; rw [h] at h'; cases h'

section
variable (P : Program) (w : World)
def ObjOk (H : Hp) (h : Heap) (a : Addr) : HO → Prop
  | .lst xs => xs.length ≤ sizeLine ∧ ∃ (its : List Value) (n : Nat), Vals xs its ∧ h.get? a = some { cls := .type "list", data := .seq its.toArray n }
  | .tup xs => xs.length ≤ sizeLine ∧ ∃ its : List Value, Vals xs its ∧ IsTup h a its.toArray
  | .dK kvs => kvs.length ≤ sizeLine ∧ (a == sysModules) = false ∧ ∃ vs, KV kvs vs ∧ h.DictOf (mixKind P w) a vs
  | .dT kvs => kvs.length ≤ sizeLine ∧ (a == sysModules) = false ∧ ∃ xs : List (List Key × Addr × Value),
      Paired (fun (p : List Key × V) (q : List Key × Addr × Value) => p.1 = q.1 ∧ H q.2.1 = some (.tup (p.1.map kV)) ∧ RelV p.2 q.2.2) kvs xs ∧
      ∃ o es ep, h.get? a = some o ∧ o.ExactDict ∧ o.data = .dict es ep ∧ es.toList = xs.map (entryOfKey (tupleKind (mixKind P w))) ∧ (xs.map (·.1)).Nodup
  | .set S n => h.SetOf (intKind P w) a S n
  | .ins C dx fs => H dx = some (.own a) ∧ fs.length ≤ 1000 ∧ dx ≠ a ∧ h.get? a = some (PySem.W.instObj C dx) ∧
      ∃ mA, h.Ns1 dx mA ∧ (∀ f, RelO (fs.lookup f) (mA f)) ∧ PySem.Within mA (fs.map (·.1))
  | .own _ => ∃ o, h.get? a = some o
  | .xd fs => ∃ mA, h.Ns1 a mA ∧ ∀ f, RelO (fs.lookup f) (mA f)
  | .rng lo hi => ∃ t u v, h.get? a = some { cls := .type "range", data := .fields #[.int lo t, .int hi u, .int 1 v] }
  | .frz o u => h.get? a = some o ∧ ObjOk H h a u
  | .tbl ps => h.get? a = some { cls := .none, data := .fields ps }
  | .met f x => h.get? a = some (PySem.W.methodObj (.ref f) (.ref x))
  | .ext φ => φ h ∧ (∃ o, h.get? a = some o) ∧ ∀ h1 h2 : Heap, φ h1 → (∀ o, h1.get? a = some o → h2.get? a = some o) → φ h2
/-- the abstract heap is held -/
def HOk (H : Hp) (h : Heap) : Prop := ∀ a o, H a = some o → ObjOk P w H h a o
end

section
variable {P : Program} {w : World} {H H' : Hp} {h h' : Heap} {a : Addr} {o : HO}
theorem ObjOk.lt (x : ObjOk P w H h a o) : a < h.objs.size := by
  cases o with
  | lst xs => obtain ⟨_, _, _, _, e⟩ := x; exact Heap.lt_size e
  | tup xs => obtain ⟨_, _, _, p⟩ := x; exact p.lt
  | dK kvs => obtain ⟨_, _, _, _, o, _, _, e, _⟩ := x; exact Heap.lt_size e
  | dT kvs => obtain ⟨_, _, _, _, o, _, _, e, _⟩ := x; exact Heap.lt_size e
  | set S n => obtain ⟨o, _, _, _, e, _⟩ := x; exact Heap.lt_size e
  | ins C dx fs => obtain ⟨_, _, _, e, _⟩ := x; exact Heap.lt_size e
  | own y => obtain ⟨_, e⟩ := x; exact Heap.lt_size e
  | xd fs => obtain ⟨_, ⟨_, _, _, e, _⟩, _⟩ := x; exact Heap.lt_size e
  | rng lo hi => obtain ⟨_, _, _, e⟩ := x; exact Heap.lt_size e
  | frz ob u => obtain ⟨e, _⟩ := x; exact Heap.lt_size e
  | tbl ps => exact Heap.lt_size (show h.get? a = some _ from x)
  | met f y => exact Heap.lt_size (show h.get? a = some _ from x)
  | ext φ => obtain ⟨_, ⟨_, e⟩, _⟩ := x; exact Heap.lt_size e
theorem Paired.mapP {α β : Type} {F G : α → β → Prop} : ∀ {l₁ : List α} {l₂ : List β}, Paired F l₁ l₂ → (∀ a b, F a b → G a b) → Paired G l₁ l₂
  | _, _, .nil, _ => .nil
  | _, _, .cons r t, f => .cons (f _ _ r) (Paired.mapP t f)
/-- what an object's description leans on: its own object, its own dict, the tuples -/
theorem ObjOk.stay (x : ObjOk P w H h a o) (k : ∀ b u, (b = a ∨ H b = some (.own a)) → h.get? b = some u → h'.get? b = some u)
    (ho : ∀ b, H b = some (.own a) → H' b = some (.own a)) (ht : ∀ b xs, H b = some (.tup xs) → H' b = some (.tup xs)) : ObjOk P w H' h' a o := by
  induction o with
  | lst xs => obtain ⟨z, its, n, r, e⟩ := x; exact ⟨z, its, n, r, k _ _ (.inl rfl) e⟩
  | tup xs => obtain ⟨z, its, r, ob, e, c⟩ := x; exact ⟨z, its, r, ob, k _ _ (.inl rfl) e, c⟩
  | dK kvs => obtain ⟨z, y, vs, r, ob, es, ep, e, c⟩ := x; exact ⟨z, y, vs, r, ob, es, ep, k _ _ (.inl rfl) e, c⟩
  | dT kvs =>
    obtain ⟨z, y, xs, r, ob, es, ep, e, c⟩ := x
    exact ⟨z, y, xs, Paired.mapP r fun p q z => ⟨z.1, ht _ _ z.2.1, z.2.2⟩, ob, es, ep, k _ _ (.inl rfl) e, c⟩
  | set S n => obtain ⟨ob, es, ep, t, e, c⟩ := x; exact ⟨ob, es, ep, t, k _ _ (.inl rfl) e, c⟩
  | ins C dx fs =>
    obtain ⟨d, z, ne, e, mA, ⟨od, es, ep, e2, c⟩, r⟩ := x
    exact ⟨ho _ d, z, ne, k _ _ (.inl rfl) e, mA, ⟨od, es, ep, k _ _ (.inr d) e2, c⟩, r⟩
  | own y => obtain ⟨ob, e⟩ := x; exact ⟨ob, k _ _ (.inl rfl) e⟩
  | xd fs => obtain ⟨mA, ⟨od, es, ep, e, c⟩, r⟩ := x; exact ⟨mA, ⟨od, es, ep, k _ _ (.inl rfl) e, c⟩, r⟩
  | rng lo hi => obtain ⟨t, u, v, e⟩ := x; exact ⟨t, u, v, k _ _ (.inl rfl) e⟩
  | frz ob u ih => obtain ⟨e, q⟩ := x; exact ⟨k _ _ (.inl rfl) e, ih q⟩
  | tbl ps =>
    have e : h.get? a = some { cls := .none, data := .fields ps } := x
    show h'.get? a = some { cls := .none, data := .fields ps }
    exact k a _ (.inl rfl) e
  | met f y =>
    have e : h.get? a = some (PySem.W.methodObj (.ref f) (.ref y)) := x
    show h'.get? a = some (PySem.W.methodObj (.ref f) (.ref y))
    exact k a _ (.inl rfl) e
  | ext φ => obtain ⟨p, ⟨o, e⟩, st⟩ := x; exact ⟨st _ _ p fun o q => k _ _ (.inl rfl) q, ⟨o, k _ _ (.inl rfl) e⟩, st⟩
theorem HOk.lt (x : HOk P w H h) (e : H a = some o) : a < h.objs.size := (x a o e).lt
theorem HOk.fresh (x : HOk P w H h) (e : h.objs.size ≤ a) : H a = none := by
  cases q : H a with
  | none => rfl
  | some u => exact absurd (Nat.lt_of_lt_of_le (x.lt q) e) (Nat.lt_irrefl _)
/-- every object of the heap is kept -/
theorem HOk.kept (x : HOk P w H h) (k : ∀ b u, h.get? b = some u → h'.get? b = some u) : HOk P w H h' := fun a o e =>
  (x a o e).stay (fun b u _ q => k b u q) (fun _ q => q) fun _ _ q => q
/-- a new object is laid and tracked -/
theorem HOk.laid (x : HOk P w H h) (k : ∀ b u, h.get? b = some u → h'.get? b = some u) (hp : h.objs.size ≤ a) (new : ObjOk P w (upd H a o) h' a o) : HOk P w (upd H a o) h' := fun b u e => by
  have hn := x.fresh hp
  by_cases hb : b = a
  · subst hb; rw [upd_same] at e; cases e; exact new
  · rw [upd_ne hb] at e
    exact (x b u e).stay (fun c v _ q => k c v q) (fun c q => by rw [upd_ne (ne_of_none q hn)]; exact q) fun c xs q => by rw [upd_ne (ne_of_none q hn)]; exact q
end

/-- what may be read as u: it is u, or a known u -/
def Rd (H : Hp) (a : Addr) (u : HO) : Prop := H a = some u ∨ ∃ o, H a = some (.frz o u)
theorem Rd.ok {P : Program} {w : World} {H : Hp} {h : Heap} {a : Addr} {u : HO} (r : Rd H a u) (x : HOk P w H h) : ObjOk P w H h a u := by
  rcases r with r | ⟨o, r⟩
  · exact x a u r
  · obtain ⟨_, q⟩ := x a _ r
    exact q
/-- what may be written -/
def Mut : Option HO → Prop
  | some (.lst _) => True
  | some (.dK _) => True
  | some (.dT _) => True
  | some (.set _ _) => True
  | some (.ins _ _ _) => True
  | some (.ext _) => True
  | _ => False
section
variable {P : Program} {w : World} {H : Hp} {h h' : Heap} {x e : Addr} {o' : HO}
/-- the object at e is changed: x itself, or the dict of the instance x -/
theorem HOk.write (ok : HOk P w H h) (mu : Mut (H x)) (he : e = x ∨ H e = some (.own x)) (k : ∀ b u, b ≠ e → h.get? b = some u → h'.get? b = some u) (heo : ∃ u, h'.get? e = some u)
    (new : ObjOk P w (upd H x o') h' x o') : HOk P w (upd H x o') h' := fun b u q => by
  have nown : ∀ c y, H c = some (.own y) → c ≠ x := fun c y r z => by subst z; rw [r] at mu; exact mu
  have ntup : ∀ c xs, H c = some (.tup xs) → c ≠ x := fun c xs r z => by subst z; rw [r] at mu; exact mu
  by_cases hb : b = x
  · subst hb; rw [upd_same] at q; cases q; exact new
  · rw [upd_ne hb] at q
    by_cases hbe : b = e
    · have q' : H b = some (.own x) := by
        rcases he with z | z
        · exact absurd (hbe.trans z) hb
        · rw [hbe]; exact z
      rw [q] at q'; cases q'
      obtain ⟨v, hv⟩ := heo
      exact ⟨v, by rw [hbe]; exact hv⟩
    · refine (ok b u q).stay (fun c v hc r => k c v ?_ r) (fun c r => by rw [upd_ne (nown c b r)]; exact r) fun c xs r => by rw [upd_ne (ntup c xs r)]; exact r
      rcases hc with rfl | hc
      · exact hbe
      · rintro rfl
        rcases he with z | z
        · exact nown c b hc z
        · rw [hc] at z; cases z; exact hb rfl
end

/-! ### kept unless tracked; of the frames at fs (the callers') the slots may change (an exception that passes writes there); of the records at ex (iterators) nothing is said -/
structure Un (fs ex : List Addr) (H H' : Hp) (h h' : Heap) : Prop where
  keep : ∀ b o, h.get? b = some o → H b = none → b ∉ fs → b ∉ ex → h'.get? b = some o
  slot : ∀ b o, h.get? b = some o → H b = none → b ∈ fs → b ∉ ex → ∃ sl, h'.get? b = some { o with slots := sl }
  free : ∀ b o, h.get? b = some o → H b = none → b ∉ ex → H' b = none
  there : ∀ b o, h.get? b = some o → b ∉ ex → ∃ o', h'.get? b = some o'
  tups : ∀ b xs, H b = some (.tup xs) → H' b = some (.tup xs)
  frzs : ∀ b o u, H b = some (.frz o u) → H' b = some (.frz o u)
  tbls : ∀ b ps, H b = some (.tbl ps) → ∃ more, H' b = some (.tbl (ps ++ more))
section
variable {fs fs' ex ex' : List Addr} {H H1 H2 : Hp} {h h1 h2 h' : Heap} {a x e : Addr} {o : HO}
theorem Un.any (u : Un fs ex H H1 h h1) {b : Addr} {ob : Obj} (q : h.get? b = some ob) (n : H b = none) (hx : b ∉ ex) : ∃ sl, h1.get? b = some { ob with slots := sl } := by
  by_cases hb : b ∈ fs
  · exact u.slot b ob q n hb hx
  · exact ⟨ob.slots, u.keep b ob q n hb hx⟩
theorem Un.kept (k : ∀ b u, h.get? b = some u → h'.get? b = some u) : Un fs ex H H h h' :=
  ⟨fun b ob q _ _ _ => k b ob q, fun b ob q _ _ _ => ⟨ob.slots, k b ob q⟩, fun _ _ _ n _ => n, fun b ob q _ => ⟨ob, k b ob q⟩, fun _ _ q => q, fun _ _ _ q => q, fun _ ps q => ⟨#[], by rw [q]; simp⟩⟩
theorem Un.refl : Un fs ex H H h h := Un.kept fun _ _ q => q
theorem Un.laid (k : ∀ b u, h.get? b = some u → h'.get? b = some u) (hp : h.objs.size ≤ a) (hn : H a = none) : Un fs ex H (upd H a o) h h' where
  keep := fun b u q _ _ _ => k b u q
  slot := fun b u q _ _ _ => ⟨u.slots, k b u q⟩
  free := fun b u q n _ => by rw [upd_ne (Nat.ne_of_lt (Nat.lt_of_lt_of_le (Heap.lt_size q) hp))]; exact n
  there := fun b u q _ => ⟨u, k b u q⟩
  tups := fun b xs q => by rw [upd_ne (ne_of_none q hn)]; exact q
  frzs := fun b u xs q => by rw [upd_ne (ne_of_none q hn)]; exact q
  tbls := fun b ps q => ⟨#[], by rw [upd_ne (ne_of_none q hn), q]; simp⟩
theorem Un.write (mu : Mut (H x)) (he : e = x ∨ H e = some (.own x)) (k : ∀ b u, b ≠ e → h.get? b = some u → h'.get? b = some u) (heo : ∃ u, h'.get? e = some u) : Un fs ex H (upd H x o) h h' := by
  have hx : ∀ b, H b = none → b ≠ x := fun b n z => by subst z; rw [n] at mu; exact mu
  have hb : ∀ b, H b = none → b ≠ e := fun b n z => by
    subst z
    rcases he with r | r
    · exact hx b n r
    · rw [n] at r; cases r
  have hm : ∀ b u, H b = some u → ¬ Mut (some u) → b ≠ x := fun b u q nm z => by subst z; rw [q] at mu; exact nm mu
  refine ⟨fun b u q n _ _ => k b u (hb b n) q, fun b u q n _ _ => ⟨u.slots, k b u (hb b n) q⟩, fun b u q n _ => by rw [upd_ne (hx b n)]; exact n, fun b u q _ => ?_,
    fun b xs q => by rw [upd_ne (hm b _ q fun z => z)]; exact q, fun b u xs q => by rw [upd_ne (hm b _ q fun z => z)]; exact q, fun b ps q => ⟨#[], by rw [upd_ne (hm b _ q fun z => z), q]; simp⟩⟩
  by_cases hbe : b = e
  · subst hbe; exact heo
  · exact ⟨u, k b u hbe q⟩
end

/-! ### the heap without what is tracked -/
def trk (h : Heap) (H : Hp) : List Addr := (List.range h.objs.size).filter fun a => (H a).isSome
def hidT (h : Heap) (H : Hp) : Heap := PySem.W.hideAll h (trk h H)
theorem hidT_size (h : Heap) (H : Hp) : (hidT h H).objs.size = h.objs.size := PySem.W.hideAll_size _ _
theorem hidT_get {h : Heap} {H : Hp} {b : Addr} {o : Obj} (e : h.get? b = some o) (n : H b = none) : (hidT h H).get? b = some o :=
  PySem.W.hideAll_get _ e fun hm => by
    have q : (H b).isSome = true := (List.mem_filter.mp hm).2
    rw [n] at q; simp at q
theorem of_hidT {h : Heap} {H : Hp} {b : Addr} {o : Obj} (e : (hidT h H).get? b = some o) : h.get? b = some o ∧ H b = none := by
  have e' : h.get? b = some o := PySem.W.of_hideAll (trk h H) e
  refine ⟨e', ?_⟩
  cases q : H b with
  | none => rfl
  | some x =>
    have hm : b ∈ trk h H := List.mem_filter.mpr ⟨List.mem_range.mpr (Heap.lt_size e'), by simp [q]⟩
    have z : (hidT h H).get? b = none := PySem.W.hideAll_none (trk h H) hm
    rw [z] at e; cases e

/-! ### OpenK's ledger, filled with every new object but one -/
end L2

namespace L2
open PySem PySem.Spec PyProof.Rows

/-- the module's facts, over the base: the heap at the law's entry without what is tracked there -/
structure Mod (K : PySem.W.Frag) (mg : Str → Option Value) (base : Heap) : Prop where
  kin : K.In base
  glob : base.Ns mainGlobals mg
  blt : ∃ mb, base.Ns builtinsNs mb ∧ ∀ x : Str, x ≠ "__name__" → mb x = bootBuiltins x
  nolimit : base.NoLimit

/-- the context: a def's body (or a comprehension's block) running. base: fixed through the whole law; s₀, H₀: the entry; outer: the frames whose slots others may change (a def's callers); stack: all frames that run;
   ex: iterators that were made ahead of the entry and are walked here (a comprehension's); fn: the names whose cells were made at the entry (a def: all; a comprehension's block: its own); calm: not within an except suite; pn: pins that every state bears; xe: what is wanted of an exception that leaves the code -/
structure Cx where
  prog : Program
  w : World
  K : PySem.W.Frag
  mg : Str → Option Value
  base : Heap
  A : Around
  N : List Str
  s₀ : Shared
  H₀ : Hp
  env : Env
  outer : List Env
  stack : List Env
  ex : List Addr
  fn : Str → Bool
  calm : Bool
  pn : List (Addr × Obj)
  xe : Value → Shared → Prop
/-- the callers' frames -/
def frs (l : List Env) : List Addr := l.filterMap (·.frame)
abbrev Cx.fs (X : Cx) : List Addr := frs X.outer

def Vis (sc : Scope) (x : Str) : Prop := sc.names.lookup x = some .local ∨ sc.names.lookup x = some .cell ∨ sc.names.lookup x = some .free
def Loc (sc : Scope) (x : Str) : Prop := sc.names.lookup x = some .local ∨ sc.names.lookup x = some .cell
def Look (env : Env) (h : Heap) (m : Str → Option Value) (x : Str) (u : Value) : Prop :=
  (env.kindOf x = some .local ∧ m x = some u) ∨ ((env.kindOf x = some .cell ∨ env.kindOf x = some .free) ∧ ∃ c, env.cells.lookup x = some c ∧ h.IsCell c (some u))

structure Cx.Ok (X : Cx) : Prop where
  mod : Mod X.K X.mg X.base
  kind : X.env.scope.kind = .function
  glob : X.env.globals = mainGlobals
  blt : X.env.builtins = builtinsNs
  above : X.s₀.heap.objs.size ≤ X.env.locals
  inj : ∀ x y c, X.env.cells.lookup x = some c → X.env.cells.lookup y = some c → x = y
  has : ∀ x, (X.env.kindOf x = some .cell ∨ X.env.kindOf x = some .free) → ∃ c, X.env.cells.lookup x = some c
  cab : ∀ x c, X.fn x = true → X.env.cells.lookup x = some c → X.s₀.heap.objs.size ≤ c
  hd : X.calm = true → X.A.handled = none
  frames : X.A.frames = some X.stack
  stk : X.stack = X.outer ∨ (X.stack = X.env :: X.outer ∧ X.env.frame = some X.env.locals)
  exf : ∀ b ∈ X.ex, b ≠ X.env.locals ∧ ∀ x c, X.env.cells.lookup x = some c → c ≠ b
  bs : ∀ b o, X.base.get? b = some o → X.s₀.heap.get? b = some o ∧ X.H₀ b = none
  bsz : X.base.objs.size ≤ X.s₀.heap.objs.size
  noex : ∀ b o, X.base.get? b = some o → b ∉ X.ex
  exfs : ∀ b ∈ X.ex, b ∉ X.fs
  funs : X.s₀.heap.FunFrames X.base X.outer
  frf : ∀ b ∈ X.fs, X.H₀ b = none

structure Inv (X : Cx) (pins : List (Addr × Obj)) (σ : List (Option V)) (H : Hp) (s : Shared) : Prop where
  ok : X.Ok
  os : s.os = X.s₀.os
  bare : AllBare s.gens
  base : Un X.fs X.ex X.H₀ H X.s₀.heap s.heap
  loc : ∃ m, s.heap.Ns X.env.locals m ∧ ∀ (i : Nat) (x : Str) (v : V), X.N[i]? = some x → σ[i]? = some (some v) → Vis X.env.scope x → ∃ u, RelV v u ∧ Look X.env s.heap m x u
  cell : ∀ x c, X.env.cells.lookup x = some c → ∃ v, s.heap.IsCell c v
  free : H X.env.locals = none
  freeC : ∀ x c, X.env.cells.lookup x = some c → H c = none
  pin : ∀ p ∈ X.pn ++ pins, s.heap.get? p.1 = some p.2 ∧ H p.1 = none ∧ p.1 ≠ X.env.locals ∧ p.1 ∉ X.fs ∧ ∀ v, p.2.data ≠ .cell v
  hok : HOk X.prog X.w H s.heap
  len : σ.length = X.N.length

section
variable {X : Cx} {pins : List (Addr × Obj)} {σ : List (Option V)} {H H' : Hp} {s : Shared} {h' : Heap}

theorem Cx.Ok.nofr (ok : X.Ok) {b : Addr} {o : Obj} (e : X.base.get? b = some o) : b ∉ X.fs := fun hb => by
  have := (ok.funs.mem hb).1
  rw [e] at this; cases this
theorem Inv.bs (I : Inv X pins σ H s) : ∀ b o, X.base.get? b = some o → s.heap.get? b = some o ∧ H b = none := fun b o e =>
  ⟨I.base.keep b o (I.ok.bs b o e).1 (I.ok.bs b o e).2 (I.ok.nofr e) (I.ok.noex b o e), I.base.free b o (I.ok.bs b o e).1 (I.ok.bs b o e).2 (I.ok.noex b o e)⟩
theorem Inv.bk (I : Inv X pins σ H s) : ∀ b o, X.base.get? b = some o → s.heap.get? b = some o := fun b o e => (I.bs b o e).1
theorem Inv.mod (I : Inv X pins σ H s) : Mod X.K X.mg X.base := I.ok.mod
theorem Inv.kIn (I : Inv X pins σ H s) : X.K.In s.heap := I.ok.mod.kin.keeps I.bk
theorem Inv.lt (I : Inv X pins σ H s) : X.env.locals < s.heap.objs.size := let ⟨_, hn, _⟩ := I.loc; hn.lt
theorem Inv.sz (I : Inv X pins σ H s) : X.s₀.heap.objs.size ≤ s.heap.objs.size := Nat.le_trans I.ok.above (Nat.le_of_lt I.lt)
theorem Inv.nofs (I : Inv X pins σ H s) {a : Addr} (h : s.heap.objs.size ≤ a) : a ∉ X.fs := fun hb => by
  obtain ⟨_, o, ho, _⟩ := I.ok.funs.mem hb
  exact absurd (Nat.lt_of_lt_of_le (Heap.lt_size ho) (Nat.le_trans I.sz h)) (Nat.lt_irrefl _)
theorem Inv.cne (I : Inv X pins σ H s) : ∀ x c, X.env.cells.lookup x = some c → c ≠ X.env.locals := fun x c e z => by
  obtain ⟨v, o, ho, hd⟩ := I.cell x c e
  obtain ⟨m, ⟨o', es, ep, ho', hd', _⟩, _⟩ := I.loc
  rw [z, ho'] at ho; cases ho; rw [hd'] at hd; cases hd
theorem Inv.funs (I : Inv X pins σ H s) : s.heap.FunFrames X.base X.outer := by
  have all : ∀ (l : List Env), (∀ b ∈ frs l, b ∈ X.fs) → X.s₀.heap.FunFrames X.base l → s.heap.FunFrames X.base l := by
    intro l
    induction l with
    | nil => intro _ _; trivial
    | cons env r ih =>
      intro hs hl
      obtain ⟨hk, ⟨L, o, hf, hn, ho, hd⟩, hr⟩ := hl
      have hL : L ∈ X.fs := hs L (by unfold frs; rw [List.filterMap_cons, hf]; exact List.mem_cons_self)
      obtain ⟨sl, e⟩ := I.base.slot L o ho (I.ok.frf L hL) hL fun z => I.ok.exfs L z hL
      exact ⟨hk, ⟨L, _, hf, hn, e, hd⟩, ih (fun b hb => hs b (by unfold frs; rw [List.filterMap_cons, hf]; exact List.mem_cons_of_mem _ hb)) hr⟩
  exact all X.outer (fun _ hb => hb) I.ok.funs

/-- the frames that run, for a call -/
theorem Inv.stack (I : Inv X pins σ H s) : s.heap.FunFrames X.base X.stack := by
  rcases I.ok.stk with e | ⟨e, hf⟩
  · rw [e]; exact I.funs
  · rw [e]
    obtain ⟨m, hn, _⟩ := I.loc
    refine .cons (by rw [I.ok.kind]; decide) hf hn ?_ I.funs
    exact Heap.get?_none_of_le (Nat.le_trans I.ok.bsz I.ok.above)
theorem Inv.stkSub (I : Inv X pins σ H s) : ∀ b ∈ frs X.stack, b ∈ X.env.locals :: X.fs := fun b hb => by
  rcases I.ok.stk with e | ⟨e, hf⟩
  · rw [e] at hb; exact List.mem_cons_of_mem _ hb
  · rw [e] at hb
    unfold frs at hb
    rw [List.filterMap_cons, hf] at hb
    exact hb
theorem Inv.stkFree (I : Inv X pins σ H s) : ∀ b ∈ frs X.stack, H b = none := fun b hb => by
  rcases List.mem_cons.mp (I.stkSub b hb) with e | hb
  · rw [e]; exact I.free
  · obtain ⟨_, o, ho, _⟩ := I.ok.funs.mem hb
    exact I.base.free b o ho (I.ok.frf b hb) fun z => I.ok.exfs b z hb

/-- THE STEP: the untracked objects but the frame and the records at ch are kept (the callers' frames up to slots), the frame's map is kept, the new abstract heap is held -/
theorem Inv.step {g' : Array GenState} {t' : Nat} {d' : Drawn} {ch : List Addr} (I : Inv X pins σ H s)
    (hch : ∀ b ∈ ch, (b ∈ X.ex ∨ X.s₀.heap.objs.size ≤ b) ∧ b ≠ X.env.locals ∧ (∀ x c, X.env.cells.lookup x = some c → c ≠ b) ∧ ∀ p ∈ X.pn ++ pins, p.1 ≠ b)
    (keep : ∀ b o, b ≠ X.env.locals → b ∉ X.fs → b ∉ ch → s.heap.get? b = some o → H b = none → h'.get? b = some o)
    (slot : ∀ b o, b ≠ X.env.locals → b ∈ X.fs → b ∉ ch → s.heap.get? b = some o → H b = none → ∃ sl, h'.get? b = some { o with slots := sl }) (free : ∀ b o, b ∉ ch → s.heap.get? b = some o → H b = none → H' b = none)
    (there : ∀ b o, b ∉ ch → s.heap.get? b = some o → ∃ o', h'.get? b = some o')
    (tups : ∀ b xs, H b = some (.tup xs) → H' b = some (.tup xs)) (frzs : ∀ b o u, H b = some (.frz o u) → H' b = some (.frz o u)) (tbls : ∀ b ps, H b = some (.tbl ps) → ∃ more, H' b = some (.tbl (ps ++ more)))
    (ns : ∀ m, s.heap.Ns X.env.locals m → h'.Ns X.env.locals m) (hok : HOk X.prog X.w H' h') (hg : AllBare g') :
    Inv X pins σ H' { s with heap := h', gens := g', drawn := d', toks := t' } := by
  have neL : ∀ b o, X.s₀.heap.get? b = some o → b ≠ X.env.locals := fun b o e => Nat.ne_of_lt (Nat.lt_of_lt_of_le (Heap.lt_size e) I.ok.above)
  have neC : ∀ b o, X.s₀.heap.get? b = some o → b ∉ X.ex → b ∉ ch := fun b o e hx hb => by
    rcases (hch b hb).1 with z | z
    · exact hx z
    · exact absurd (Nat.lt_of_lt_of_le (Heap.lt_size e) z) (Nat.lt_irrefl _)
  have cellK : ∀ x c, X.env.cells.lookup x = some c → ∀ v, s.heap.IsCell c v → h'.IsCell c v := fun x c e v ⟨o, ho, hd⟩ => by
    have nch : c ∉ ch := fun z => (hch c z).2.2.1 x c e rfl
    by_cases hc : c ∈ X.fs
    · obtain ⟨sl, q⟩ := slot c o (I.cne x c e) hc nch ho (I.freeC x c e)
      exact ⟨_, q, hd⟩
    · exact ⟨o, keep c o (I.cne x c e) hc nch ho (I.freeC x c e), hd⟩
  refine ⟨I.ok, I.os, hg, ⟨fun b o e n hb hx => ?_, fun b o e n hb hx => ?_, fun b o e n hx => ?_, fun b o e hx => ?_, fun b xs e => tups b xs (I.base.tups b xs e), fun b o xs e => frzs b o xs (I.base.frzs b o xs e), fun b ps e => ?_⟩, ?_, fun x c e => ?_, ?_, fun x c e => ?_, fun p hp => ?_, hok, I.len⟩
  · exact keep b o (neL b o e) hb (neC b o e hx) (I.base.keep b o e n hb hx) (I.base.free b o e n hx)
  · obtain ⟨sl, e1⟩ := I.base.slot b o e n hb hx
    obtain ⟨sl', e2⟩ := slot b _ (neL b o e) hb (neC b o e hx) e1 (I.base.free b o e n hx)
    exact ⟨sl', e2⟩
  · obtain ⟨o', e1⟩ := I.base.there b o e hx
    exact free b o' (neC b o e hx) e1 (I.base.free b o e n hx)
  · obtain ⟨o', e1⟩ := I.base.there b o e hx
    exact there b o' (neC b o e hx) e1
  · obtain ⟨m1, e1⟩ := I.base.tbls b ps e
    obtain ⟨m2, e2⟩ := tbls b _ e1
    exact ⟨m1 ++ m2, by rw [e2, Array.append_assoc]⟩
  · obtain ⟨m, hn, hl⟩ := I.loc
    refine ⟨m, ns m hn, fun i x v e1 e2 e3 => ?_⟩
    obtain ⟨u, r, l⟩ := hl i x v e1 e2 e3
    refine ⟨u, r, ?_⟩
    rcases l with l | ⟨k, c, e, z⟩
    · exact .inl l
    · exact .inr ⟨k, c, e, cellK x c e _ z⟩
  · obtain ⟨v, z⟩ := I.cell x c e
    exact ⟨v, cellK x c e v z⟩
  · obtain ⟨m, ⟨o, _, _, ho, _⟩, _⟩ := I.loc
    exact free _ o (fun z => (hch _ z).2.1 rfl) ho I.free
  · obtain ⟨v, o, ho, hd⟩ := I.cell x c e
    exact free c o (fun z => (hch c z).2.2.1 x c e rfl) ho (I.freeC x c e)
  · obtain ⟨e, n, ne, nf, d⟩ := I.pin p hp
    have nch : p.1 ∉ ch := fun z => (hch p.1 z).2.2.2 p hp rfl
    exact ⟨keep p.1 p.2 ne nf nch e n, free p.1 p.2 nch e n, ne, nf, d⟩
/-- .. where the frame's own object is kept too -/
theorem Inv.un {t' : Nat} (I : Inv X pins σ H s) (u : Un X.fs [] H H' s.heap h') (hok : HOk X.prog X.w H' h') : Inv X pins σ H' { s with heap := h', toks := t' } := by
  obtain ⟨m, ⟨o, es, ep, ho, r⟩, _⟩ := id I.loc
  obtain ⟨sl, hL⟩ := u.any ho I.free (by simp)
  exact I.step (g' := s.gens) (d' := s.drawn) (ch := []) (fun _ z => nomatch z) (fun b o _ hb _ e n => u.keep b o e n hb (by simp)) (fun b o _ hb _ e n => u.slot b o e n hb (by simp)) (fun b o _ e n => u.free b o e n (by simp)) (fun b o _ e => u.there b o e (by simp)) u.tups u.frzs u.tbls (fun m' hm => by
    obtain ⟨o', es', ep', ho', r'⟩ := hm
    rw [ho] at ho'; cases ho'
    exact ⟨_, es', ep', hL, r'⟩) hok I.bare
/-- behind a call (or a comprehension's block): the slots of this frame may have changed too, the records at ch may have turned -/
theorem Inv.call {g' : Array GenState} {t' : Nat} {d' : Drawn} {ch : List Addr} (I : Inv X pins σ H s) (u : Un (frs X.stack) ch H H' s.heap h') (hok : HOk X.prog X.w H' h') (hg : AllBare g')
    (hch : ∀ b ∈ ch, (b ∈ X.ex ∨ X.s₀.heap.objs.size ≤ b) ∧ b ≠ X.env.locals ∧ (∀ x c, X.env.cells.lookup x = some c → c ≠ b) ∧ ∀ p ∈ X.pn ++ pins, p.1 ≠ b) :
    Inv X pins σ H' { s with heap := h', gens := g', drawn := d', toks := t' } := by
  obtain ⟨m, ⟨o, es, ep, ho, r⟩, _⟩ := id I.loc
  obtain ⟨sl, hL⟩ := u.any ho I.free fun z => (hch _ z).2.1 rfl
  exact I.step (ch := ch) hch (fun b o hL hb hc e n => u.keep b o e n (fun z => (List.mem_cons.mp (I.stkSub b z)).elim hL hb) hc) (fun b o _ _ hc e n => u.any e n hc) (fun b o hc e n => u.free b o e n hc) (fun b o hc e => u.there b o e hc) u.tups u.frzs u.tbls (fun m' hm => by
    obtain ⟨o', es', ep', ho', r'⟩ := hm
    rw [ho] at ho'; cases ho'
    exact ⟨_, es', ep', hL, r'⟩) hok hg
/-- an untracked record of ours (an iterator) has turned -/
theorem Inv.turned {t' : Nat} {it : Addr} (I : Inv X pins σ H s) (k : ∀ b o, b ≠ it → s.heap.get? b = some o → h'.get? b = some o) (hn : H it = none) (hL : it ≠ X.env.locals)
    (h1 : it ∈ X.ex ∨ X.s₀.heap.objs.size ≤ it) (h2 : ∀ x c, X.env.cells.lookup x = some c → c ≠ it) (h3 : ∀ p ∈ X.pn ++ pins, p.1 ≠ it) : Inv X pins σ H { s with heap := h', toks := t' } := by
  have nit : ∀ b u, H b = some u → b ≠ it := fun b u e z => by rw [z, hn] at e; cases e
  refine I.step (g' := s.gens) (d' := s.drawn) (ch := [it]) (fun b hb => ?_) (fun b o _ _ hc e _ => k b o (fun z => hc (by simp [z])) e) (fun b o _ _ hc e _ => ⟨o.slots, k b o (fun z => hc (by simp [z])) e⟩) (fun _ _ _ _ n => n)
    (fun b o hc e => ⟨o, k b o (fun z => hc (by simp [z])) e⟩) (fun _ _ e => e) (fun _ _ _ e => e) (fun b ps e => ⟨#[], by rw [e]; simp⟩) (fun m hm => ?_) (fun b u e => ?_) I.bare
  · have e : b = it := by simpa using hb
    subst e
    exact ⟨h1, hL, h2, h3⟩
  · obtain ⟨o, es, ep, ho, r⟩ := hm
    exact ⟨o, es, ep, k _ o (Ne.symm hL) ho, r⟩
  · refine (I.hok b u e).stay (fun c v hc q => k c v ?_ q) (fun _ q => q) fun _ _ q => q
    rcases hc with z | z
    · rw [z]; exact nit b u e
    · exact nit c _ z
theorem Inv.tok (I : Inv X pins σ H s) (t : Nat) : Inv X pins σ H { s with toks := t } := I.un (h' := s.heap) (t' := t) Un.refl I.hok
/-- all objects kept -/
theorem Inv.kept {t' : Nat} (I : Inv X pins σ H s) (k : ∀ b u, s.heap.get? b = some u → h'.get? b = some u) : Inv X pins σ H { s with heap := h', toks := t' } := I.un (Un.kept k) (I.hok.kept k)
/-- a new object laid and tracked -/
theorem Inv.laid {a : Addr} {o : HO} {t' : Nat} (I : Inv X pins σ H s) (k : ∀ b u, s.heap.get? b = some u → h'.get? b = some u) (hp : s.heap.objs.size ≤ a) (new : ObjOk X.prog X.w (upd H a o) h' a o) :
    Inv X pins σ (upd H a o) { s with heap := h', toks := t' } := I.un (Un.laid k hp (I.hok.fresh hp)) (I.hok.laid k hp new)
/-- an object written -/
theorem Inv.write {x e : Addr} {o : HO} {t' : Nat} (I : Inv X pins σ H s) (mu : Mut (H x)) (he : e = x ∨ H e = some (.own x)) (k : ∀ b u, b ≠ e → s.heap.get? b = some u → h'.get? b = some u) (heo : ∃ u, h'.get? e = some u)
    (new : ObjOk X.prog X.w (upd H x o) h' x o) : Inv X pins σ (upd H x o) { s with heap := h', toks := t' } := I.un (Un.write mu he k heo) (I.hok.write mu he k heo new)
theorem Inv.pins_of {pins' : List (Addr × Obj)} (I : Inv X pins σ H s) (h : ∀ p ∈ pins', s.heap.get? p.1 = some p.2 ∧ H p.1 = none ∧ p.1 ≠ X.env.locals ∧ p.1 ∉ X.fs ∧ ∀ v, p.2.data ≠ .cell v) : Inv X pins' σ H s :=
  ⟨I.ok, I.os, I.bare, I.base, I.loc, I.cell, I.free, I.freeC, fun p hp => (List.mem_append.mp hp).elim (fun z => I.pin p (List.mem_append_left _ z)) (h p), I.hok, I.len⟩

theorem nodup_ix {N : List Str} (hN : N.Nodup) {i j : Nat} {x : Str} (a : N[i]? = some x) (b : N[j]? = some x) : i = j := by
  obtain ⟨h1, e1⟩ := List.getElem?_eq_some_iff.mp a
  obtain ⟨h2, e2⟩ := List.getElem?_eq_some_iff.mp b
  exact (List.getElem_inj hN).mp (e1.trans e2.symm)

/-- a name is stored; what changed -/
theorem store_ok2 {M : Model} {A : Around} {E : Value → Shared → Prop} {i : Nat} {x : Str} {v : V} {u : Value} {Q : Unit → Shared → Prop} (I : Inv X pins σ H s) (hN : X.N.Nodup) (hi : X.N[i]? = some x) (hx : Loc X.env.scope x) (r : RelV v u)
    (h : ∀ s', Inv X pins (σ.set i (some v)) H s' → (∃ a, Heap.SameBut a s.heap s'.heap ∧ (a = X.env.locals ∨ X.env.cells.lookup x = some a)) → Q () s') (hf : X.fn x = true ∨ X.env.scope.names.lookup x = some .local := by first | exact .inl rfl | exact .inr rfl | assumption) : wpAny M A (storeName X.env x u) Q E s := by
  obtain ⟨m, hn, hl⟩ := id I.loc
  have hcls : (X.env.scope.kind == .class || (X.env.scope.kind == .module && X.env.locals != X.env.globals)) = false := by rw [I.ok.kind]; rfl
  have hiσ : i < σ.length := by rw [I.len]; exact (List.getElem?_eq_some_iff.mp hi).1
  have cne := I.cne
  have tracked : ∀ {a : Addr} {h' : Heap}, (∃ o, s.heap.get? a = some o ∧ H a = none) → Heap.SameBut a s.heap h' → HOk X.prog X.w H h' := fun {a h'} ha hs b ob e => by
    obtain ⟨_, _, hfree⟩ := ha
    refine (I.hok b ob e).stay (fun c w' hc q => (hs.2 c ?_).trans q) (fun _ q => q) fun _ _ q => q
    rintro rfl
    rcases hc with rfl | hc
    · rw [hfree] at e; cases e
    · rw [hfree] at hc; cases hc
  rcases hx with hk | hk
  · refine wpAny_storeName_local hk hn (fun h' hn' hs => ?_) hcls
    obtain ⟨oL, _, _, hoL, _⟩ := id hn
    refine h _ ⟨I.ok, I.os, I.bare, ⟨fun b o e n hb hx => ?_, fun b o e n hb hx => ?_, I.base.free, fun b o e hx => ?_, I.base.tups, I.base.frzs, I.base.tbls⟩, ⟨_, hn', fun j y v' e1 e2 e3 => ?_⟩, fun y c e => ?_, I.free, I.freeC, fun p hp => ?_, tracked ⟨oL, hoL, I.free⟩ hs, by simpa using I.len⟩ ⟨_, hs, .inl rfl⟩
    · exact (hs.2 b (Nat.ne_of_lt (Nat.lt_of_lt_of_le (Heap.lt_size e) I.ok.above))).trans (I.base.keep b o e n hb hx)
    · obtain ⟨sl, e1⟩ := I.base.slot b o e n hb hx
      exact ⟨sl, (hs.2 b (Nat.ne_of_lt (Nat.lt_of_lt_of_le (Heap.lt_size e) I.ok.above))).trans e1⟩
    · obtain ⟨o', e1⟩ := I.base.there b o e hx
      exact ⟨o', (hs.2 b (Nat.ne_of_lt (Nat.lt_of_lt_of_le (Heap.lt_size e) I.ok.above))).trans e1⟩
    · by_cases hj : j = i
      · subst hj
        rw [hi] at e1; cases e1
        rw [List.getElem?_set_self hiσ] at e2
        cases e2
        exact ⟨u, r, .inl ⟨hk, by simp⟩⟩
      · rw [List.getElem?_set_ne (Ne.symm hj)] at e2
        obtain ⟨u', r', q⟩ := hl j y v' e1 e2 e3
        refine ⟨u', r', ?_⟩
        rcases q with ⟨k, e⟩ | ⟨k, c, e, z⟩
        · refine .inl ⟨k, ?_⟩
          have : y ≠ x := fun e => hj (nodup_ix hN e1 (e ▸ hi))
          simp [this, e]
        · exact .inr ⟨k, c, e, z.sameBut hs (cne y c e)⟩
    · obtain ⟨w', z⟩ := I.cell y c e
      exact ⟨w', z.sameBut hs (cne y c e)⟩
    · obtain ⟨e, n, ne, nf, d⟩ := I.pin p hp
      exact ⟨(hs.2 p.1 ne).trans e, n, ne, nf, d⟩
  · have hfn : X.fn x = true := by
      rcases hf with z | z
      · exact z
      · rw [z] at hk; cases hk
    obtain ⟨c, hc⟩ := I.ok.has x (.inl hk)
    obtain ⟨w', z⟩ := I.cell x c hc
    refine wpAny_storeName_cell I.ok.kind hk hc z (fun h' hc' hs => ?_)
    obtain ⟨oc, hoc, hocd⟩ := id z
    refine h { s with heap := h' } ⟨I.ok, I.os, I.bare, ⟨fun b o e n hb hx => ?_, fun b o e n hb hx => ?_, I.base.free, fun b o e hx => ?_, I.base.tups, I.base.frzs, I.base.tbls⟩, ⟨m, hn.sameBut hs (Ne.symm (cne x c hc)), fun j y v' e1 e2 e3 => ?_⟩, fun y c' e => ?_, I.free, I.freeC, fun p hp => ?_, tracked ⟨oc, hoc, I.freeC x c hc⟩ hs, by simpa using I.len⟩ ⟨c, hs, .inr hc⟩
    · exact (hs.2 b (Nat.ne_of_lt (Nat.lt_of_lt_of_le (Heap.lt_size e) (I.ok.cab x c hfn hc)))).trans (I.base.keep b o e n hb hx)
    · obtain ⟨sl, e1⟩ := I.base.slot b o e n hb hx
      exact ⟨sl, (hs.2 b (Nat.ne_of_lt (Nat.lt_of_lt_of_le (Heap.lt_size e) (I.ok.cab x c hfn hc)))).trans e1⟩
    · obtain ⟨o', e1⟩ := I.base.there b o e hx
      exact ⟨o', (hs.2 b (Nat.ne_of_lt (Nat.lt_of_lt_of_le (Heap.lt_size e) (I.ok.cab x c hfn hc)))).trans e1⟩
    · by_cases hj : j = i
      · subst hj
        rw [hi] at e1; cases e1
        rw [List.getElem?_set_self hiσ] at e2
        cases e2
        exact ⟨u, r, .inr ⟨.inl hk, c, hc, hc'⟩⟩
      · rw [List.getElem?_set_ne (Ne.symm hj)] at e2
        obtain ⟨u', r', q⟩ := hl j y v' e1 e2 e3
        refine ⟨u', r', ?_⟩
        rcases q with q | ⟨k, c', e, z'⟩
        · exact .inl q
        · refine .inr ⟨k, c', e, z'.sameBut hs ?_⟩
          rintro rfl
          exact hj (nodup_ix hN e1 (I.ok.inj _ _ _ e hc ▸ hi))
    · by_cases hcc : c' = c
      · subst hcc; exact ⟨_, hc'⟩
      · obtain ⟨w2, z2⟩ := I.cell y c' e
        exact ⟨w2, z2.sameBut hs hcc⟩
    · obtain ⟨e, n, ne, nf, d⟩ := I.pin p hp
      refine ⟨(hs.2 p.1 ?_).trans e, n, ne, nf, d⟩
      intro q
      rw [q, hoc] at e
      have q' : oc = p.2 := Option.some.inj e
      exact d w' (by rw [← q']; exact hocd)
theorem store_ok {M : Model} {A : Around} {E : Value → Shared → Prop} {i : Nat} {x : Str} {v : V} {u : Value} {Q : Unit → Shared → Prop} (I : Inv X pins σ H s) (hN : X.N.Nodup) (hi : X.N[i]? = some x) (hx : Loc X.env.scope x) (r : RelV v u)
    (h : ∀ s', Inv X pins (σ.set i (some v)) H s' → Q () s') (hf : X.fn x = true ∨ X.env.scope.names.lookup x = some .local := by first | exact .inl rfl | exact .inr rfl | assumption) : wpAny M A (storeName X.env x u) Q E s :=
  store_ok2 I hN hi hx r (fun s' I' _ => h s' I') hf
/-- behind a call or a block, the state as it is -/
theorem Inv.call' {s' : Shared} {ch : List Addr} (I : Inv X pins σ H s) (ho : s'.os = s.os) (u : Un (frs X.stack) ch H H' s.heap s'.heap) (hok : HOk X.prog X.w H' s'.heap) (hg : AllBare s'.gens)
    (hch : ∀ b ∈ ch, (b ∈ X.ex ∨ X.s₀.heap.objs.size ≤ b) ∧ b ≠ X.env.locals ∧ (∀ x c, X.env.cells.lookup x = some c → c ≠ b) ∧ ∀ p ∈ X.pn ++ pins, p.1 ≠ b) : Inv X pins σ H' s' := by
  obtain ⟨h', g', d', t', o'⟩ := s'
  have e : o' = s.os := ho
  subst e
  exact I.call (g' := g') (t' := t') (d' := d') u hok hg hch
end

/-! ### the judgements -/
/-- an exception: its class, its own dict's address (where it has one), the abstract heap behind it -/
abbrev XK := Value → Option Addr → Hp → Prop
abbrev St := List (Option V)
abbrev VK := V → Hp → Prop
/-- an expression's reading; a test's; an argument list's -/
abbrev TE := St → Hp → VK → Prop
abbrev TT := St → Hp → (Bool → Hp → Prop) → Prop
abbrev TA := St → Hp → (List V → Hp → Prop) → Prop
/-- what is wanted behind a statement -/
structure Ends where
  nx : St → Hp → Prop
  rt : VK
  bk : St → Hp → Prop := fun _ _ => False
  ct : St → Hp → Prop := fun _ _ => False
abbrev TS := Ends → St → Hp → Prop

def EP (X : Cx) (pins : List (Addr × Obj)) (σ : St) (Q : VK) (u : Value) (s' : Shared) : Prop := ∃ v H', Inv X pins σ H' s' ∧ RelV v u ∧ Q v H'
def TP (X : Cx) (pins : List (Addr × Obj)) (σ : St) (Q : Bool → Hp → Prop) (b : Bool) (s' : Shared) : Prop := ∃ H', Inv X pins σ H' s' ∧ Q b H'
def AP (X : Cx) (pins : List (Addr × Obj)) (σ : St) (Q : List V → Hp → Prop) (us : List Value) (s' : Shared) : Prop := ∃ vs H', Inv X pins σ H' s' ∧ Vals vs us ∧ Q vs H'
def SP (X : Cx) (pins : List (Addr × Obj)) (D : Ends) (f : Flow) (s' : Shared) : Prop :=
  match f with
  | .next => ∃ σ' H', Inv X pins σ' H' s' ∧ D.nx σ' H'
  | .brk => ∃ σ' H', Inv X pins σ' H' s' ∧ D.bk σ' H'
  | .cont => ∃ σ' H', Inv X pins σ' H' s' ∧ D.ct σ' H'
  | .ret u => ∃ v σ' H', Inv X pins σ' H' s' ∧ RelV v u ∧ D.rt v H'

def PE (X : Cx) (e : Expr) (t : TE) : Prop :=
  ∀ (pins : List (Addr × Obj)) (s : Shared) (σ : St) (H : Hp) (Q : VK), Inv X pins σ H s → t σ H Q → wpAny (model X.prog X.w) X.A (eval e X.env) (EP X pins σ Q) X.xe s
def PT (X : Cx) (e : Expr) (t : TT) : Prop :=
  ∀ (pins : List (Addr × Obj)) (s : Shared) (σ : St) (H : Hp) (Q : Bool → Hp → Prop), Inv X pins σ H s → t σ H Q → wpAny (model X.prog X.w) X.A (isTrue e X.env (eval e X.env)) (TP X pins σ Q) X.xe s
/-- a test whatever its 'whole' is (and, or) -/
def PW (X : Cx) (e : Expr) (t : TT) : Prop :=
  ∀ (whole : Sem Value) (pins : List (Addr × Obj)) (s : Shared) (σ : St) (H : Hp) (Q : Bool → Hp → Prop), Inv X pins σ H s → t σ H Q → wpAny (model X.prog X.w) X.A (isTrue e X.env whole) (TP X pins σ Q) X.xe s
theorem PW.pt {X : Cx} {e : Expr} {t : TT} (h : PW X e t) : PT X e t := h _
/-- an argument list (no star), from the left -/
def PA (X : Cx) (es : List Expr) (t : TA) : Prop :=
  ∀ (pos : Pos) (pins : List (Addr × Obj)) (s : Shared) (σ : St) (H : Hp) (Q : List V → Hp → Prop), Inv X pins σ H s → t σ H Q → wpAny (model X.prog X.w) X.A (spliced (backTo pos (starEach es X.env))) (AP X pins σ Q) X.xe s
def PS (X : Cx) (st : Stmt) (t : TS) : Prop :=
  ∀ (pins : List (Addr × Obj)) (s : Shared) (σ : St) (H : Hp) (D : Ends), Inv X pins σ H s → t D σ H → wpAny (model X.prog X.w) X.A (exec st X.env) (SP X pins D) X.xe s
def PSs (X : Cx) (st : List Stmt) (t : TS) : Prop :=
  ∀ (pins : List (Addr × Obj)) (s : Shared) (σ : St) (H : Hp) (D : Ends), Inv X pins σ H s → t D σ H → wpAny (model X.prog X.w) X.A (execs st X.env) (SP X pins D) X.xe s
/-- weaken the end -/
theorem thn {α : Type} {t : Sem α} {Q Q' : α → Shared → Prop} {M : Model} {A : Around} {E : Value → Shared → Prop} {s : Shared} (h : wpAny M A t Q E s) (hQ : ∀ a s, Q a s → Q' a s) : wpAny M A t Q' E s := wpAny_mono h hQ fun _ _ x => x
end L2

namespace L2
open PySem PySem.Spec PyProof.Rows
section
variable {X : Cx}

/-- two expressions in a row -/
theorem bin {a b : Expr} {ta tb : TE} (ha : PE X a ta) (hb : PE X b tb) {pins : List (Addr × Obj)} {s : Shared} {σ : St} {H : Hp} {R : V → V → Hp → Prop} (I : Inv X pins σ H s) (h : ta σ H fun x H1 => tb σ H1 fun y H2 => R x y H2)
    {α : Type} {Q : α → Shared → Prop} {f : Value → Value → Sem α}
    (hf : ∀ v u s2 x y H2, Inv X pins σ H2 s2 → RelV x v → RelV y u → R x y H2 → wpAny (model X.prog X.w) X.A (f v u) Q X.xe s2) :
    wpAny (model X.prog X.w) X.A (eval a X.env) (fun v s₁ => wpAny (model X.prog X.w) X.A (eval b X.env) (fun u s₂ => wpAny (model X.prog X.w) X.A (f v u) Q X.xe s₂) X.xe s₁) X.xe s := by
  refine thn (ha pins s σ H _ I h) fun v s1 ⟨x, H1, I1, r1, q1⟩ => ?_
  refine thn (hb pins s1 σ H1 _ I1 q1) fun u s2 ⟨y, H2, I2, r2, q2⟩ => ?_
  exact hf v u s2 x y H2 I2 r1 r2 q2

/-! ### names and constants -/
def tVar (i : Nat) : TE := fun σ H Q => ∃ v, σ[i]? = some (some v) ∧ Q v H
def tC (v : V) : TE := fun _ H Q => Q v H
theorem pe_var {i : Nat} {x : Str} {pos : Pos} (hN : X.N[i]? = some x) (hv : Vis X.env.scope x) (hd : (x == ("__debug__" : Str)) = false := by decide) (hcd : (x == ("__classdict__" : Str)) = false := by decide) : PE X (.Name x pos) (tVar i) := by
  intro pins s σ H Q I h
  obtain ⟨v, e, h⟩ := h
  obtain ⟨m, hn, hl⟩ := I.loc
  obtain ⟨u, r, l⟩ := hl i x v hN e hv
  have fin : EP X pins σ Q u s := ⟨v, H, I, r, h⟩
  rcases l with ⟨hk, hm⟩ | ⟨hk, c, hc, hcell⟩
  · exact wpAny_Name (wpAny_loadName_local I.ok.kind hk hn hm fin) hd
  · rcases hk with hk | hk
    · exact wpAny_Name (wpAny_loadName_cell I.ok.kind hk hc hcell fin) hd
    · exact wpAny_Name (wpAny_loadName_free I.ok.kind hk hc hcell fin hcd) hd
theorem pe_int {i j pos} : PE X (.Constant (.int i) j pos) (tC (.int i)) := fun _ _ _ H _ I h => wpAny_Constant_int ⟨.int i, H, I.tok _, ⟨_, rfl⟩, h⟩
theorem pe_bl {b j pos} : PE X (.Constant (.bool b) j pos) (tC (.bl b)) := fun _ _ _ H _ I h => Constant_bool ⟨.bl b, H, I, rfl, h⟩
theorem pe_non {j pos} : PE X (.Constant .none j pos) (tC .non) := fun _ _ _ H _ I h => Constant_none ⟨.non, H, I, rfl, h⟩
theorem pe_str {x j pos} : PE X (.Constant (.str x) j pos) (tC (.str x)) := fun _ _ _ H _ I h => Calls.Constant_str ⟨.str x, H, I.tok _, ⟨_, rfl⟩, h⟩

/-- a global name of the def -/
def Gl (X : Cx) (x : Str) : Prop := X.env.kindOf x = some .globalImplicit
theorem ld_glob {E : Value → Shared → Prop} {pins : List (Addr × Obj)} {s : Shared} {σ : St} {H : Hp} {x : Str} {u : Value} {pos : Pos} {Q : Value → Shared → Prop} (I : Inv X pins σ H s) (hg : Gl X x) (hm : X.mg x = some u) (h : Q u s)
    (hd : (x == ("__debug__" : Str)) = false := by decide) : wpAny (model X.prog X.w) X.A (eval (.Name x pos) X.env) Q E s :=
  Calls.Name_function_global I.ok.kind hg (Calls.loadGlobal_global (by rw [I.ok.glob]; exact I.mod.glob.keeps I.bk) hm h) hd
theorem ld_blt {E : Value → Shared → Prop} {pins : List (Addr × Obj)} {s : Shared} {σ : St} {H : Hp} {x : Str} {u : Value} {pos : Pos} {Q : Value → Shared → Prop} (I : Inv X pins σ H s) (hg : Gl X x) (hm : X.mg x = none) (hv : bootBuiltins x = some u) (h : Q u s)
    (hn : x ≠ "__name__" := by decide) (hd : (x == ("__debug__" : Str)) = false := by decide) : wpAny (model X.prog X.w) X.A (eval (.Name x pos) X.env) Q E s := by
  obtain ⟨mb, h1, h2⟩ := I.mod.blt
  exact Calls.Name_function_global I.ok.kind hg (Calls.loadGlobal_builtin (by rw [I.ok.glob]; exact I.mod.glob.keeps I.bk) hm (by rw [I.ok.blt]; exact h1.keeps I.bk) ((h2 x hn).trans hv) h) hd

/-! ### arithmetic -/
variable {a b : Expr} {ta tb : TE} {pos : Pos}

/-! ### comparisons -/
def PC (X : Cx) (op : CmpOp) (a b : Expr) (t : TE) : Prop :=
  ∀ (pins : List (Addr × Obj)) (s : Shared) (σ : St) (H : Hp) (Q : VK), Inv X pins σ H s → t σ H Q →
    wpAny (model X.prog X.w) X.A (eval a X.env) (fun v s₁ => wpAny (model X.prog X.w) X.A (eval b X.env) (fun u s₂ => wpAny (model X.prog X.w) X.A (compareOp op v u) (EP X pins σ Q) X.xe s₂) X.xe s₁) X.xe s
/-- a comparison as a value, as a test -/
def tB (t : TE) : TT := fun σ H Q => t σ H fun x H1 => ∃ c, x = .bl c ∧ Q c H1
theorem pt_cmp {op : CmpOp} {t : TE} (h : PC X op a b t) (h1 : behindInMarks op b = false := by first | exact nobehind _ (by decide) (by decide) | rfl) : PT X (.Compare a [op] [b] pos) (tB t) := by
  intro pins s σ H Q I hw
  refine wpAny_isTrue_Compare1 (thn (h pins s σ H _ I hw) fun v s1 h1 => thn h1 fun u s2 h2 => thn h2 fun c s3 ⟨x, H1, I1, r1, q1⟩ => ?_) h1
  obtain ⟨d, rfl, q⟩ := q1
  cases r1
  exact wpAny_truthy_bool ⟨H1, I1, q⟩

/-! ### and, or, not -/
variable {tA tB' : TT} {rest : List Expr}
def tAnd (t u : TT) : TT := fun σ H Q => t σ H fun c H1 => if c = true then u σ H1 Q else Q false H1
def tOr (t u : TT) : TT := fun σ H Q => t σ H fun c H1 => if c = true then Q true H1 else u σ H1 Q
theorem pw_and1 (ha : PT X a tA) : PW X (.BoolOp .And [a] pos) tA := by
  intro wh pins s σ H Q I h
  refine isTrue_and (thn (ha pins s σ H Q I h) fun c s1 e => ?_)
  cases c with
  | true => exact isTrue_and_nil e
  | false => exact e
theorem pw_or1 (ha : PT X a tA) : PW X (.BoolOp .Or [a] pos) tA := by
  intro wh pins s σ H Q I h
  refine isTrue_or (thn (ha pins s σ H Q I h) fun c s1 e => ?_)
  cases c with
  | false => exact isTrue_or_nil e
  | true => exact e
theorem pw_and (ha : PT X a tA) (hb : PW X (.BoolOp .And (b :: rest) pos) tB') : PW X (.BoolOp .And (a :: b :: rest) pos) (tAnd tA tB') := by
  intro wh pins s σ H Q I h
  refine isTrue_and (thn (ha pins s σ H _ I h) fun c s1 ⟨H1, I1, q1⟩ => ?_)
  cases c with
  | true => exact hb wh pins s1 σ H1 Q I1 q1
  | false => exact ⟨H1, I1, q1⟩
theorem pw_or (ha : PT X a tA) (hb : PW X (.BoolOp .Or (b :: rest) pos) tB') : PW X (.BoolOp .Or (a :: b :: rest) pos) (tOr tA tB') := by
  intro wh pins s σ H Q I h
  refine isTrue_or (thn (ha pins s σ H _ I h) fun c s1 ⟨H1, I1, q1⟩ => ?_)
  cases c with
  | true => exact ⟨H1, I1, q1⟩
  | false => exact hb wh pins s1 σ H1 Q I1 q1
/-- a if t else b -/
def tIf (t : TT) (ta tb : TE) : TE := fun σ H Q => t σ H fun c H1 => if c = true then ta σ H1 Q else tb σ H1 Q
theorem pe_ifExp {c : Expr} (hc : PT X c tA) (ha : PE X a ta) (hb : PE X b tb) : PE X (.IfExp c a b pos) (tIf tA ta tb) := by
  intro pins s σ H Q I h
  refine wpAny_IfExp (thn (hc pins s σ H _ I h) fun d s1 ⟨H1, I1, q1⟩ => ?_)
  cases d with
  | true => exact ha pins s1 σ H1 Q I1 q1
  | false => exact hb pins s1 σ H1 Q I1 q1
end
end L2

namespace L2
open PySem PySem.Spec PyProof.Rows

/-! ### a list, a tuple that is read: tracked, frozen, or an object of the module -/
def SqL (K : PySem.W.Frag) (H : Hp) (a : Addr) (xs : List V) : Prop :=
  Rd H a (.lst xs) ∨
    ∃ (o : Obj) (its : Array Value) (n : Nat), K.lookup a = some o ∧ o.cls = .type "list" ∧ o.dict = none ∧ o.data = .seq its n ∧ its.size ≤ sizeLine ∧ Vals xs its.toList
def SqT (K : PySem.W.Frag) (H : Hp) (a : Addr) (xs : List V) : Prop :=
  Rd H a (.tup xs) ∨
    ∃ (o : Obj) (its : Array Value) (n : Nat), K.lookup a = some o ∧ o.cls = .type "tuple" ∧ o.data = .seq its n ∧ its.size ≤ sizeLine ∧ Vals xs its.toList
def absV : Value → Option V
  | .none => some .non
  | .bool b => some (.bl b)
  | .int i _ => some (.int i)
  | .str x _ => some (.str x)
  | .bytes b _ => some (.byt b)
  | .float b _ => some (.flt b)
  | .ref a => some (.ref a)
  | .type n => some (.ty n)
  | _ => none
theorem RelV.abs {x : V} {u : Value} (r : RelV x u) : absV u = some x := by
  cases x with
  | non => cases r; rfl
  | bl _ => cases r; rfl
  | int _ => obtain ⟨t, rfl⟩ := r; rfl
  | str _ => obtain ⟨t, rfl⟩ := r; rfl
  | byt _ => obtain ⟨t, rfl⟩ := r; rfl
  | flt _ => obtain ⟨t, rfl⟩ := r; rfl
  | ref _ => cases r; rfl
  | ty _ => cases r; rfl
theorem RelV.inj {x y : V} {u : Value} (r : RelV x u) (q : RelV y u) : x = y := Option.some.inj (r.abs.symm.trans q.abs)
theorem Vals.inj : ∀ {xs ys : List V} {us : List Value}, Vals xs us → Vals ys us → xs = ys
  | _, _, _, .nil, .nil => rfl
  | _, _, _, .cons r t, .cons r' t' => by rw [r.inj r', Vals.inj t t']
section
variable {X : Cx} {pins : List (Addr × Obj)} {σ : St} {H : Hp} {s : Shared} {a : Addr} {xs ys : List V}
theorem SqL.of {K : PySem.W.Frag} (h : H a = some (.lst xs)) : SqL K H a xs := .inl (.inl h)
theorem SqT.of {K : PySem.W.Frag} (h : H a = some (.tup xs)) : SqT K H a xs := .inl (.inl h)
theorem Inv.list (I : Inv X pins σ H s) (h : SqL X.K H a xs) : ∃ its : List Value, Vals xs its ∧ PlainL s.heap a its.toArray ∧ xs.length ≤ sizeLine := by
  rcases h with h | ⟨o, its, n, hk, hc, hd, hs, hz, r⟩
  · obtain ⟨z, its, n, r, e⟩ := h.ok I.hok
    exact ⟨its, r, ⟨_, n, e, rfl, rfl, rfl⟩, z⟩
  · refine ⟨its.toList, r, ⟨o, n, I.kIn a o hk, hc, hd, by simpa using hs⟩, ?_⟩
    have e := r.length
    simp only [Array.length_toList] at e
    omega
theorem Inv.tuple (I : Inv X pins σ H s) (h : SqT X.K H a xs) : ∃ its : List Value, Vals xs its ∧ IsTup s.heap a its.toArray ∧ xs.length ≤ sizeLine := by
  rcases h with h | ⟨o, its, n, hk, hc, hs, hz, r⟩
  · obtain ⟨z, its, r, p⟩ := h.ok I.hok
    exact ⟨its, r, p, z⟩
  · refine ⟨its.toList, r, ⟨o, I.kIn a o hk, hc, n, by simpa using hs⟩, ?_⟩
    have e := r.length
    simp only [Array.length_toList] at e
    omega
theorem Inv.list_inj (I : Inv X pins σ H s) (h : SqL X.K H a xs) (h' : SqL X.K H a ys) : xs = ys := by
  obtain ⟨its, r, ⟨o, n, e, _, _, d⟩, _⟩ := I.list h
  obtain ⟨its', r', ⟨o', n', e', _, _, d'⟩, _⟩ := I.list h'
  rw [e] at e'; cases e'
  rw [d] at d'
  injection d' with d1 _
  have : its = its' := by simpa using congrArg Array.toList d1
  subst this
  exact r.inj r'
theorem Inv.tuple_inj (I : Inv X pins σ H s) (h : SqT X.K H a xs) (h' : SqT X.K H a ys) : xs = ys := by
  obtain ⟨its, r, ⟨o, e, _, n, d⟩, _⟩ := I.tuple h
  obtain ⟨its', r', ⟨o', e', _, n', d'⟩, _⟩ := I.tuple h'
  rw [e] at e'; cases e'
  rw [d] at d'
  injection d' with d1 _
  have : its = its' := by simpa using congrArg Array.toList d1
  subst this
  exact r.inj r'
end

/-! ### another wish about exceptions -/
abbrev Cx.wish (X : Cx) (E : Value → Shared → Prop) : Cx := { X with xe := E }
/-- no exception leaves -/
abbrev Cx.nox (X : Cx) : Cx := X.wish fun _ _ => False
theorem Cx.Ok.wish {X : Cx} (ok : X.Ok) (E : Value → Shared → Prop) : (X.wish E).Ok :=
  ⟨ok.mod, ok.kind, ok.glob, ok.blt, ok.above, ok.inj, ok.has, ok.cab, ok.hd, ok.frames, ok.stk, ok.exf, ok.bs, ok.bsz, ok.noex, ok.exfs, ok.funs, ok.frf⟩
theorem Cx.Ok.unwish {X : Cx} {E : Value → Shared → Prop} (ok : (X.wish E).Ok) : X.Ok :=
  ⟨ok.mod, ok.kind, ok.glob, ok.blt, ok.above, ok.inj, ok.has, ok.cab, ok.hd, ok.frames, ok.stk, ok.exf, ok.bs, ok.bsz, ok.noex, ok.exfs, ok.funs, ok.frf⟩
section
variable {X : Cx} {pins : List (Addr × Obj)} {σ : St} {H : Hp} {s : Shared} {E : Value → Shared → Prop}
theorem Inv.wish (I : Inv X pins σ H s) (E : Value → Shared → Prop) : Inv (X.wish E) pins σ H s := ⟨I.ok.wish E, I.os, I.bare, I.base, I.loc, I.cell, I.free, I.freeC, I.pin, I.hok, I.len⟩
theorem Inv.unwish (I : Inv (X.wish E) pins σ H s) : Inv X pins σ H s := ⟨I.ok.unwish, I.os, I.bare, I.base, I.loc, I.cell, I.free, I.freeC, I.pin, I.hok, I.len⟩
theorem SP.unwish {D : Ends} {f : Flow} {s' : Shared} (h : SP (X.wish E) pins D f s') : SP X pins D f s' := by
  cases f with
  | next => obtain ⟨σ', H', I, q⟩ := h; exact ⟨σ', H', I.unwish, q⟩
  | brk => obtain ⟨σ', H', I, q⟩ := h; exact ⟨σ', H', I.unwish, q⟩
  | cont => obtain ⟨σ', H', I, q⟩ := h; exact ⟨σ', H', I.unwish, q⟩
  | ret u => obtain ⟨v, σ', H', I, r, q⟩ := h; exact ⟨v, σ', H', I.unwish, r, q⟩
theorem PSs.nox {st : List Stmt} {t : TS} (h : PSs X.nox st t) : PSs X st t := fun pins s σ H D I hw =>
  wpAny_mono (h pins s σ H D (I.wish _) hw) (fun _ _ q => q.unwish) fun _ _ z => False.elim z
end

/-! ### blocks and small statements -/
section
variable {X : Cx} {st : Stmt} {rest : List Stmt} {t u : TS} {e : Expr} {te : TE} {pos : Pos}
def tNext : TS := fun D σ H => D.nx σ H
def tSeq (t u : TS) : TS := fun D σ H => t { D with nx := u D } σ H
theorem pss_nil : PSs X [] tNext := fun _ _ σ H _ I h => wpAny_execs_nil ⟨σ, H, I, h⟩
theorem pss_cons (h1 : PS X st t) (h2 : PSs X rest u) : PSs X (st :: rest) (tSeq t u) := by
  intro pins s σ H D I h
  refine wpAny_execs_cons (thn (h1 pins s σ H { D with nx := u D } I h) fun f s1 q => ?_)
  cases f with
  | next =>
    obtain ⟨σ', H', I', q⟩ := q
    exact h2 pins s1 σ' H' D I' q
  | ret v => exact q
  | brk => exact q
  | cont => exact q
theorem pss_one (h1 : PS X st t) : PSs X [st] t := by
  intro pins s σ H D I h
  refine wpAny_execs_cons (thn (h1 pins s σ H D I h) fun f s1 q => ?_)
  cases f with
  | next => exact wpAny_execs_nil q
  | ret v => exact q
  | brk => exact q
  | cont => exact q
/-- in a def's body nothing is shown -/
theorem Inv.quiet {pins : List (Addr × Obj)} {σ : St} {H : Hp} {s : Shared} (I : Inv X pins σ H s) : interactive X.env = false := by simp [interactive, I.ok.kind]
/-- an expression whose value is dropped -/
def tDrop (te : TE) : TS := fun D σ H => te σ H fun _ H1 => D.nx σ H1
theorem ps_expr (he : PE X e te) (hs : swapsWith e none pos.line X.env = pure false := by rfl) : PS X (.Expr e pos) (tDrop te) := by
  intro pins s σ H D I h
  exact wpAny_Expr_any (thn (he pins s σ H _ I h) fun v s1 ⟨x, H1, I1, r1, q1⟩ => ⟨σ, H1, I1, q1⟩) I.quiet hs
def tRet (te : TE) : TS := fun D σ H => te σ H D.rt
theorem ps_ret (he : PE X e te) : PS X (.Return (some e) pos) (tRet te) := by
  intro pins s σ H D I h
  exact wpAny_Return_some (thn (he pins s σ H _ I h) fun v s1 ⟨x, H1, I1, r1, q1⟩ => ⟨x, σ, H1, I1, r1, q1⟩)
def tIfS (c : TT) (t u : TS) : TS := fun D σ H => c σ H fun b H1 => if b = true then t D σ H1 else u D σ H1
theorem ps_if {c : Expr} {a b : List Stmt} {tc : TT} (hc : PT X c tc) (ha : PSs X a t) (hb : PSs X b u) : PS X (.If c a b pos) (tIfS tc t u) := by
  intro pins s σ H D I h
  refine wpAny_If (thn (hc pins s σ H _ I h) fun d s1 ⟨H1, I1, q1⟩ => ?_)
  cases d with
  | true => exact ha pins s1 σ H1 D I1 q1
  | false => exact hb pins s1 σ H1 D I1 q1
end

/-! ### targets -/
abbrev TG := V → St → Hp → (St → Hp → Prop) → Prop
abbrev TGs := List V → St → Hp → (St → Hp → Prop) → Prop
def PG (X : Cx) (target : Expr) (t : TG) : Prop :=
  ∀ (pins : List (Addr × Obj)) (s : Shared) (σ : St) (H : Hp) (v : V) (u : Value) (Q : St → Hp → Prop), Inv X pins σ H s → RelV v u → t v σ H Q →
    wpAny (model X.prog X.w) X.A (assign target X.env u) (fun _ s' => ∃ σ' H', Inv X pins σ' H' s' ∧ Q σ' H') X.xe s
/-- several targets, one after another -/
def PGs (X : Cx) (ts : List Expr) (t : TGs) : Prop :=
  ∀ (pins : List (Addr × Obj)) (s : Shared) (σ : St) (H : Hp) (vs : List V) (us : List Value) (Q : St → Hp → Prop), Inv X pins σ H s → Vals vs us → t vs σ H Q →
    wpAny (model X.prog X.w) X.A (assignInOrder ((assignEach ts X.env).map (·.2)) us) (fun _ s' => ∃ σ' H', Inv X pins σ' H' s' ∧ Q σ' H') X.xe s
/-- o[i] = v, by values -/
abbrev TSet := V → V → V → Hp → (Hp → Prop) → Prop
def PSet (X : Cx) (t : TSet) : Prop :=
  ∀ (pins : List (Addr × Obj)) (s : Shared) (σ : St) (H : Hp) (o i v : V) (ov iv u : Value) (Q : Hp → Prop), Inv X pins σ H s → RelV o ov → RelV i iv → RelV v u → t o i v H Q →
    wpAny (model X.prog X.w) X.A (setItem ov iv u) (fun _ s' => ∃ H', Inv X pins σ H' s' ∧ Q H') X.xe s
section
variable {X : Cx} {pos : Pos}
def gName (i : Nat) : TG := fun v σ H Q => Q (σ.set i (some v)) H
theorem pg_name {i : Nat} {x : Str} (hN : X.N.Nodup) (hi : X.N[i]? = some x) (hx : Loc X.env.scope x) (hf : X.fn x = true ∨ X.env.scope.names.lookup x = some .local := by first | exact .inl rfl | exact .inr rfl | assumption) : PG X (.Name x pos) (gName i) := by
  intro pins s σ H v u Q I r h
  exact wpAny_assign_Name (store_ok I hN hi hx r (fun s' I' => ⟨_, H, I', h⟩) hf)
def gNil : TGs := fun vs σ H Q => vs = [] ∧ Q σ H
def gCons (t : TG) (u : TGs) : TGs := fun vs σ H Q => ∃ v r, vs = v :: r ∧ t v σ H fun σ' H' => u r σ' H' Q
theorem pgs_nil : PGs X [] gNil := by
  intro pins s σ H vs us Q I r h
  obtain ⟨e, h⟩ := h
  subst e
  cases r
  exact assignInOrder_nil ⟨σ, H, I, h⟩
theorem pgs_cons {e : Expr} {es : List Expr} {t : TG} {u : TGs} (h1 : PG X e t) (h2 : PGs X es u)
    (hs : (assignEach (e :: es) X.env).map (·.2) = assign e X.env :: (assignEach es X.env).map (·.2) := by rfl) : PGs X (e :: es) (gCons t u) := by
  intro pins s σ H vs us Q I r h
  obtain ⟨v, vr, e1, h⟩ := h
  subst e1
  cases r with
  | cons r rr =>
    rw [hs]
    refine assignInOrder_cons (thn (h1 pins s σ H _ _ _ I r h) fun _ s1 ⟨σ1, H1, I1, q1⟩ => ?_)
    exact h2 pins s1 σ1 H1 _ _ Q I1 rr q1
/-- (a, b, ..) = a tuple of that length -/
def gTup (K : PySem.W.Frag) (n : Nat) (t : TGs) : TG := fun v σ H Q => ∃ a xs, v = .ref a ∧ SqT K H a xs ∧ xs.length = n ∧ t xs σ H Q
theorem pg_tup {es : List Expr} {k : Nat} {t : TGs} {n : Nat} (hc : X.calm = true) (h : PGs X es t)
    (hn : (assignEach es X.env).length = n := by rfl) (hst : (assignEach es X.env).findIdx? (·.1) = none := by rfl) : PG X (.Tuple es k pos) (gTup X.K n t) := by
  intro pins s σ H v u Q I r hw
  obtain ⟨a, xs, e1, hq, hl, hw⟩ := hw
  subst e1
  cases r
  obtain ⟨its, rv, ht, hz⟩ := I.tuple hq
  refine assign_Tuple_tuple (I.ok.hd hc) ht (by simp [hn, ← hl, rv.length]) hst fun h' hx => ?_
  have I1 : Inv X pins σ H { s with heap := h' } := I.kept (t' := s.toks) fun b o e => hx b o (Nat.ne_of_lt (Heap.lt_size e)) e
  exact h pins _ σ H xs _ Q I1 (by simpa using rv) hw
/-- o[i] = .. -/
def gSub (to ti : TE) (t : TSet) : TG := fun v σ H Q => to σ H fun o H1 => ti σ H1 fun i H2 => t o i v H2 fun H3 => Q σ H3
theorem pg_sub {o i : Expr} {to ti : TE} {t : TSet} (ho : PE X o to) (hi : PE X i ti) (hs : PSet X t)
    (ha : ∀ v, assign (.Subscript o i pos) X.env v = (do
      let ov ← holding [v] (eval o X.env)
      let iv ← holding [v, ov] (eval i X.env)
      standAt pos
      holding [v, ov, iv] (setItem ov iv v)
      release [v, ov, iv] []) := by intro _; rfl) : PG X (.Subscript o i pos) (gSub to ti t) := by
  intro pins s σ H v u Q I r h
  rw [ha]
  refine wpAny_bind (wpAny_holding (thn (ho pins s σ H _ I h) fun ov s1 ⟨x, H1, I1, r1, q1⟩ => ?_))
  refine wpAny_bind (wpAny_holding (thn (hi pins s1 σ H1 _ I1 q1) fun iv s2 ⟨y, H2, I2, r2, q2⟩ => ?_))
  refine wpAny_bind (wpAny_standAt (wpAny_bind (wpAny_holding (thn (hs pins s2 σ H2 x y v ov iv u _ I2 r1 r2 r q2) fun _ s3 ⟨H3, I3, q3⟩ => ?_))))
  exact wpAny_release ⟨σ, H3, I3, q3⟩
/-- target = value -/
def tAsg (te : TE) (g : TG) : TS := fun D σ H => te σ H fun x H1 => g x σ H1 D.nx
theorem ps_asg {tg e : Expr} {te : TE} {g : TG} (he : PE X e te) (hg : PG X tg g) (hs : swapsWithSole [tg] e pos.line X.env = pure false := by rfl) (hw : swappedStores [tg] e X.env = pure none := by rfl)
    (h1 : (assignEach [tg] X.env).map (·.2) = [assign tg X.env] := by rfl) : PS X (.Assign [tg] e pos) (tAsg te g) := by
  intro pins s σ H D I h
  refine wpAny_Assign_stores (thn (he pins s σ H _ I h) fun v s1 ⟨x, H1, I1, r1, q1⟩ => ?_) hs hw
  rw [h1]
  exact thn (hg pins s1 σ H1 x v _ I1 r1 q1) fun _ s2 q => q
/-- name = value -/
theorem ps_set {i : Nat} {x : Str} {e : Expr} {te : TE} {pos' : Pos} (hN : X.N.Nodup) (hi : X.N[i]? = some x) (hx : Loc X.env.scope x) (he : PE X e te) (hs : swapsWith e (some (.Name x pos')) pos.line X.env = pure false := by rfl) (hf : X.fn x = true ∨ X.env.scope.names.lookup x = some .local := by first | exact .inl rfl | exact .inr rfl | assumption) :
    PS X (.Assign [.Name x pos'] e pos) (tAsg te (gName i)) := by
  intro pins s σ H D I h
  refine wpAny_Assign_Name (thn (he pins s σ H _ I h) fun v s1 ⟨y, H1, I1, r1, q1⟩ => ?_) hs
  exact store_ok I1 hN hi hx r1 (fun s2 I2 => ⟨_, H1, I2, q1⟩) hf
end

/-! ### while -/
section
variable {X : Cx} {pos : Pos}
end

/-! ### what a loop or a comprehension walks -/
/-- at turn i: it yields x (the heap may grow), or it stops -/
structure It where
  go : Nat → Hp → Prop
  yld : Nat → Hp → V → Hp → Prop
  stop : Nat → Hp → Prop
/-- the iterator's own objects may turn: they are not the frame's, not pinned, younger than the entry (or a comprehension's own) -/
def FpOk (X : Cx) (pins : List (Addr × Obj)) (H : Hp) (b : Addr) : Prop :=
  H b = none ∧ b ≠ X.env.locals ∧ b ∉ X.fs ∧ (b ∈ X.ex ∨ X.s₀.heap.objs.size ≤ b) ∧ (∀ x c, X.env.cells.lookup x = some c → c ≠ b) ∧ ∀ p ∈ X.pn ++ pins, p.1 ≠ b
theorem Inv.fpOk {X : Cx} {pins : List (Addr × Obj)} {σ : St} {H H' : Hp} {s : Shared} {b : Addr} (I : Inv X pins σ H s) (hb : s.heap.objs.size ≤ b) (hn : H' b = none) : FpOk X pins H' b := by
  refine ⟨hn, Nat.ne_of_gt (Nat.lt_of_lt_of_le I.lt hb), I.nofs hb, .inr (Nat.le_trans I.sz hb), fun x c e z => ?_, fun p hp z => ?_⟩
  · obtain ⟨v, q⟩ := I.cell x c e
    exact absurd (Nat.lt_of_lt_of_le q.lt (by rw [z]; exact hb)) (Nat.lt_irrefl _)
  · exact absurd (Nat.lt_of_lt_of_le (Heap.lt_size (I.pin p hp).1) (by rw [z]; exact hb)) (Nat.lt_irrefl _)
structure Turn (P : Program) (w : World) (K : PySem.W.Frag) (tg : Expr) (J : It) (fp : List Addr) (it : Addr) (tn : Nat → Heap → Prop) : Prop where
  mem : it ∈ fp
  obj : ∀ i h, tn i h → ∀ b ∈ fp, ∃ o, h.get? b = some o ∧ ∀ v, o.data ≠ .cell v
  keep : ∀ i h h', tn i h → (∀ b ∈ fp, ∀ o, h.get? b = some o → h'.get? b = some o) → tn i h'
  item : ∀ (X : Cx), X.prog = P → X.w = w → X.K = K → X.calm = true → ∀ (i : Nat) (pins : List (Addr × Obj)) (s : Shared) (σ : St) (H : Hp) (E : Value → Shared → Prop), Inv X pins σ H s → (∀ b ∈ fp, FpOk X pins H b) → tn i s.heap → J.go i H →
    wpAny (model P w) X.A (pyNext (.ref it)) (fun r s1 => ∃ u, r = some u ∧
      wpAny (model P w) X.A (letOwnedTupleGo tg (.ref it) u) (fun _ s2 => ∃ x H', Inv X pins σ H' s2 ∧ RelV x u ∧ J.yld i H x H' ∧ tn (i + 1) s2.heap ∧ ∀ b ∈ fp, H' b = none) E s1) E s
  done : ∀ (X : Cx), X.prog = P → X.w = w → X.K = K → X.calm = true → ∀ (i : Nat) (pins : List (Addr × Obj)) (s : Shared) (σ : St) (H : Hp) (E : Value → Shared → Prop), Inv X pins σ H s → (∀ b ∈ fp, FpOk X pins H b) → tn i s.heap → J.stop i H →
    wpAny (model P w) X.A (pyNext (.ref it)) (fun r s1 => r = none ∧ Inv X pins σ H s1) E s
  self : ∀ (A : Around) (i : Nat) (s : Shared) (Q : Value → Shared → Prop) (E : Value → Shared → Prop), tn i s.heap → Q (.ref it) s → wpAny (model P w) A (pyIter (.ref it)) Q E s
abbrev TI := St → Hp → (It → Hp → Prop) → Prop
/-- an iterator has come -/
def PIE (X : Cx) (pins : List (Addr × Obj)) (σ : St) (tg : Expr) (R : It → Hp → Prop) (itv : Value) (s2 : Shared) : Prop :=
  ∃ (it : Addr) (fp : List Addr) (tn : Nat → Heap → Prop) (J : It) (H' : Hp), itv = .ref it ∧ Inv X pins σ H' s2 ∧ Turn X.prog X.w X.K tg J fp it tn ∧ tn 0 s2.heap ∧ (∀ b ∈ fp, FpOk X pins H' b) ∧ R J H'
def PI (X : Cx) (tg iter : Expr) (wi : TI) : Prop :=
  ∀ (pins : List (Addr × Obj)) (s : Shared) (σ : St) (H : Hp) (R : It → Hp → Prop), Inv X pins σ H s → wi σ H R →
    wpAny (model X.prog X.w) X.A (eval iter X.env) (fun v s1 => wpAny (model X.prog X.w) X.A (pyIter v) (PIE X pins σ tg R) X.xe s1) X.xe s

/-- the step ahead of the store is nothing for an iterator that keeps no tuple -/
theorem go_of {M : Model} {A : Around} {E : Value → Shared → Prop} {s : Shared} {tg : Expr} {it : Addr} {u : Value} {o : Obj} {n : String} {vs : Array Value} {Q : Unit → Shared → Prop} (ho : s.heap.get? it = some o) (hc : o.cls = .type n) (hd : o.data = .fields vs)
    (hn : ["enumerate", "zip", "dict_itemiterator", "dict_reverseitemiterator", "odict_iterator", "itertools.zip_longest", "itertools.pairwise"].contains n = false) (hQ : Q () s) : wpAny M A (letOwnedTupleGo tg (.ref it) u) Q E s := by
  unfold letOwnedTupleGo
  cases tg <;> first
    | exact wpAny_pure hQ
    | (cases u <;> first
        | exact wpAny_pure hQ
        | (refine wpAny_bind (wpAny_load ho ?_)
           rw [hc, hd]
           show wpAny M A (if (["enumerate", "zip", "dict_itemiterator", "dict_reverseitemiterator", "odict_iterator", "itertools.zip_longest", "itertools.pairwise"].contains n && vs[0]? == some (rawInt _)) = true then _ else _) Q E s
           rw [if_neg (by intro h; rw [hn, Bool.false_and] at h; cases h)]
           exact wpAny_pure hQ))

/-- the list at a, as it stands at each turn (a loop may append to it) -/
def Itl (K : PySem.W.Frag) (a : Addr) : It :=
  ⟨fun i H => ∃ xs x, SqL K H a xs ∧ xs[i]? = some x, fun i H x H' => H' = H ∧ ∀ xs, SqL K H a xs → xs[i]? = some x, fun i H => ∃ xs, SqL K H a xs ∧ xs.length ≤ i⟩
def Itt (K : PySem.W.Frag) (a : Addr) : It :=
  ⟨fun i H => ∃ xs x, SqT K H a xs ∧ xs[i]? = some x, fun i H x H' => H' = H ∧ ∀ xs, SqT K H a xs → xs[i]? = some x, fun i H => ∃ xs, SqT K H a xs ∧ xs.length ≤ i⟩
/-- lo, lo + 1, .. (n of them) -/
def Itr (lo : Int) (n : Nat) : It := ⟨fun i _ => i < n, fun i H x H' => H' = H ∧ x = .int (lo + i), fun i _ => n ≤ i⟩
theorem turn_list {P : Program} {w : World} {K : PySem.W.Frag} {tg : Expr} (a it : Addr) : Turn P w K tg (Itl K a) [it] it (fun i h => h.IsListIter it a i) where
  mem := by simp
  obj := fun i h st b hb => by
    have e : b = it := by simpa using hb
    subst e
    obtain ⟨o, e, c, d⟩ := st
    exact ⟨o, e, fun v z => by rw [d] at z; cases z⟩
  keep := fun i h h' st k => st.at fun o e => k it (by simp) o e
  item := by
    intro X hP hw hK hc i pins s σ H E I hf st hg
    subst hP hw hK
    obtain ⟨xs, x, hq, hx⟩ := hg
    obtain ⟨its, rv, p, hz⟩ := I.list hq
    obtain ⟨u, hu, ru⟩ := rv.get hx
    obtain ⟨f0, f1, f2, f3, f4, f5⟩ := hf it (by simp)
    refine wpAny_pyNext_list_item st p.isList (x := u) (by simpa using hu) fun h' st' sb => ?_
    have I1 : Inv X pins σ H { s with heap := h' } := I.turned (t' := s.toks) (fun b o hb e => (sb.2 b hb).trans e) f0 f1 f3 f4 f5
    obtain ⟨o, e, c, d⟩ := id st'
    exact ⟨u, rfl, go_of (s := { s with heap := h' }) e c d (by decide) ⟨x, H, I1, ru, ⟨rfl, fun ys hy => by rw [I.list_inj hy hq]; exact hx⟩, st', fun b hb => (hf b hb).1⟩⟩
  done := by
    intro X hP hw hK hc i pins s σ H E I hf st hg
    subst hP hw hK
    obtain ⟨xs, hq, hx⟩ := hg
    obtain ⟨its, rv, p, hz⟩ := I.list hq
    obtain ⟨f0, f1, f2, f3, f4, f5⟩ := hf it (by simp)
    have hl := rv.length
    exact wpAny_pyNext_list_end (I.ok.hd hc) st p.isList (by simp; omega) fun h' eb => ⟨rfl, I.turned (t' := s.toks) (fun b o hb e => eb b o hb e) f0 f1 f3 f4 f5⟩
  self := fun _ _ _ _ _ st h => wpAny_pyIter_listiter st h
theorem turn_tuple {P : Program} {w : World} {K : PySem.W.Frag} {tg : Expr} (a it : Addr) : Turn P w K tg (Itt K a) [it] it (fun i h => h.IsTupleIter it a i) where
  mem := by simp
  obj := fun i h st b hb => by
    have e : b = it := by simpa using hb
    subst e
    obtain ⟨o, e, c, d⟩ := st
    exact ⟨o, e, fun v z => by rw [d] at z; cases z⟩
  keep := fun i h h' st k => st.at fun o e => k it (by simp) o e
  item := by
    intro X hP hw hK hc i pins s σ H E I hf st hg
    subst hP hw hK
    obtain ⟨xs, x, hq, hx⟩ := hg
    obtain ⟨its, rv, p, hz⟩ := I.tuple hq
    obtain ⟨u, hu, ru⟩ := rv.get hx
    obtain ⟨f0, f1, f2, f3, f4, f5⟩ := hf it (by simp)
    refine wpAny_pyNext_tuple_item st (show s.heap.IsTuple a its.toArray from p) (x := u) (by simpa using hu) fun h' st' sb => ?_
    have I1 : Inv X pins σ H { s with heap := h' } := I.turned (t' := s.toks) (fun b o hb e => (sb.2 b hb).trans e) f0 f1 f3 f4 f5
    obtain ⟨o, e, c, d⟩ := id st'
    exact ⟨u, rfl, go_of (s := { s with heap := h' }) e c d (by decide) ⟨x, H, I1, ru, ⟨rfl, fun ys hy => by rw [I.tuple_inj hy hq]; exact hx⟩, st', fun b hb => (hf b hb).1⟩⟩
  done := by
    intro X hP hw hK hc i pins s σ H E I hf st hg
    subst hP hw hK
    obtain ⟨xs, hq, hx⟩ := hg
    obtain ⟨its, rv, p, hz⟩ := I.tuple hq
    obtain ⟨f0, f1, f2, f3, f4, f5⟩ := hf it (by simp)
    have hl := rv.length
    exact wpAny_pyNext_tuple_end (I.ok.hd hc) st (show s.heap.IsTuple a its.toArray from p) (by simp; omega) fun h' eb => ⟨rfl, I.turned (t' := s.toks) (fun b o hb e => eb b o hb e) f0 f1 f3 f4 f5⟩
  self := fun _ _ _ _ _ st h => wpAny_pyIter_tupleiter st h
theorem turn_range {P : Program} {w : World} {K : PySem.W.Frag} {tg : Expr} (it : Addr) (lo : Int) (n : Nat) : Turn P w K tg (Itr lo n) [it] it (fun i h => IsRangeIter h it (lo + (i : Nat) * 1) ((n : Int) - (i : Nat)) 1) where
  mem := by simp
  obj := fun i h st b hb => by
    have e : b = it := by simpa using hb
    subst e
    exact ⟨_, st, fun v z => by
      have z' : Data.fields _ = Data.cell v := z
      cases z'⟩
  keep := fun i h h' st k => k it (by simp) _ st
  item := by
    intro X hP hw hK hc i pins s σ H E I hf st hg
    subst hP hw hK
    obtain ⟨f0, f1, f2, f3, f4, f5⟩ := hf it (by simp)
    have W := Walks.range (prog := X.prog) (w := X.w) (I.ok.hd hc) it lo 1 n
    refine W.item i s _ _ hg st fun v h' tk hv st' kk => ?_
    obtain ⟨t, rfl⟩ := hv
    have I1 : Inv X pins σ H { s with heap := h', toks := tk } := I.turned (fun b o hb e => kk b o (by simpa using hb) e) f0 f1 f3 f4 f5
    refine ⟨_, rfl, go_of (s := { s with heap := h', toks := tk }) (n := "range_iterator") st' rfl rfl (by decide) ⟨.int (lo + i), H, I1, ⟨t, ?_⟩, ⟨rfl, rfl⟩, st', fun b hb => (hf b hb).1⟩⟩
    rw [Int.mul_one]
  done := by
    intro X hP hw hK hc i pins s σ H E I hf st hg
    subst hP hw hK
    obtain ⟨f0, f1, f2, f3, f4, f5⟩ := hf it (by simp)
    exact wpAny_pyNext_range_end (I.ok.hd hc) st (by have : n ≤ i := hg; omega) fun h' eb => ⟨rfl, I.turned (t' := s.toks) (fun b o hb e => eb b o hb e) f0 f1 f3 f4 f5⟩
  self := fun _ _ _ _ _ st h => wpAny_pyIter_rangeiter st h
end L2

namespace L2
open PySem PySem.Spec PyProof.Rows
section
variable {X : Cx} {tg : Expr}
/-- a range object just made, walked -/
theorem range_it {pins : List (Addr × Obj)} {σ : St} {H : Hp} {s : Shared} {R : It → Hp → Prop} {E : Value → Shared → Prop} {lo hi : Int} {t u v : Tok} {tk : Nat} (I : Inv X pins σ H s) (h1 : -(2 ^ 62) ≤ lo) (h2 : lo < 2 ^ 62) (h3 : -(2 ^ 62) ≤ hi) (h4 : hi < 2 ^ 62)
    (q : R (Itr lo (hi - lo).toNat) H) : wpAny (model X.prog X.w) X.A (pyIter (.ref s.heap.objs.size)) (PIE X pins σ tg R) E { s with heap := s.heap.push { cls := .type "range", data := .fields #[.int lo t, .int hi u, .int 1 v] }, toks := tk } := by
  refine wpAny_pyIter_range (IsRange.new ..) (small_one h1 h2 h3 h4) ?_
  have I1 : Inv X pins σ H { s with heap := s.heap.push { cls := .type "range", data := .fields #[.int lo t, .int hi u, .int 1 v] }, toks := tk } := I.kept fun b o e => Heap.get?_push_of_some _ e
  refine ⟨(s.heap.push { cls := .type "range", data := .fields #[.int lo t, .int hi u, .int 1 v] }).objs.size, [(s.heap.push { cls := .type "range", data := .fields #[.int lo t, .int hi u, .int 1 v] }).objs.size], _, _, H, rfl,
    I1.kept (t' := tk) fun b o e => Heap.get?_push_of_some _ e, turn_range _ lo (hi - lo).toNat, ?_, fun b hb => ?_, q⟩
  · have e1 : lo + ((0 : Nat) : Int) * 1 = lo := by simp
    have e2 : (((hi - lo).toNat : Nat) : Int) - ((0 : Nat) : Int) = Builtin.Range.rangeSize lo hi 1 := by rw [rangeSize_one]; split <;> omega
    show IsRangeIter _ _ (lo + ((0 : Nat) : Int) * 1) ((((hi - lo).toNat : Nat) : Int) - ((0 : Nat) : Int)) 1
    rw [e1, e2]
    exact Heap.get?_push_size _ rfl
  · have e : b = (s.heap.push { cls := .type "range", data := .fields #[.int lo t, .int hi u, .int 1 v] }).objs.size := by simpa using hb
    subst e
    exact I1.fpOk (Nat.le_refl _) (I1.hok.fresh (Nat.le_refl _))
def iRng1 (ta : TA) : TI := fun σ H R => ta σ H fun vs H1 => ∃ j : Int, vs = [.int j] ∧ -(2 ^ 62) ≤ j ∧ j < 2 ^ 62 ∧ R (Itr 0 j.toNat) H1
def iRng2 (ta : TA) : TI := fun σ H R => ta σ H fun vs H1 => ∃ i j : Int, vs = [.int i, .int j] ∧ (-(2 ^ 62) ≤ i ∧ i < 2 ^ 62 ∧ -(2 ^ 62) ≤ j ∧ j < 2 ^ 62) ∧ R (Itr i (j - i).toNat) H1
theorem pi_range1 {a : Expr} {ta : TA} {p pos : Pos} (hg : Gl X "range") (hm : X.mg "range" = none) (ha : PA X [a] ta) (hs : starEach [a] X.env = [(false, eval a X.env)] := by rfl) : PI X tg (.Call (.Name "range" p) [a] [] pos) (iRng1 ta) := by
  intro pins s σ H R I h
  refine Call_ (ld_blt I hg hm boot_range (PyProof.Rows.callWith_type1 (thn (ha pos pins s σ H _ I h) fun us s1 ⟨vs, H1, I1, r1, q1⟩ => ?_) hs rfl))
  obtain ⟨j, e, q1, q2, q⟩ := q1
  subst e
  cases r1 with
  | cons r rr =>
    cases rr
    obtain ⟨t, rfl⟩ := r
    exact call_range_1 (range_it I1 (by omega) (by omega) q1 q2 (by simpa using q))
theorem pi_range2 {a b : Expr} {ta : TA} {p pos : Pos} (hg : Gl X "range") (hm : X.mg "range" = none) (ha : PA X [a, b] ta) (hs : starEach [a, b] X.env = [(false, eval a X.env), (false, eval b X.env)] := by rfl) (hs2 : starEach [b] X.env = [(false, eval b X.env)] := by rfl) :
    PI X tg (.Call (.Name "range" p) [a, b] [] pos) (iRng2 ta) := by
  intro pins s σ H R I h
  refine Call_ (ld_blt I hg hm boot_range (PyProof.Rows.callWith_type1 (thn (ha pos pins s σ H _ I h) fun us s1 ⟨vs, H1, I1, r1, q1⟩ => ?_) (by rw [hs, hs2]) (by rw [hs2]; rfl)))
  obtain ⟨i, j, e, ⟨q1, q2, q3, q4⟩, q⟩ := q1
  subst e
  cases r1 with
  | cons r rr =>
    cases rr with
    | cons r' rr =>
      cases rr
      obtain ⟨t, rfl⟩ := r
      obtain ⟨t', rfl⟩ := r'
      exact call_range_2 (range_it I1 q1 q2 q3 q4 q)

/-! ### for -/
/-- W: the invariant by the turn and a measure; N: what the body is to reach -/
def tFor (wi : TI) (g : TG) (tb : TS) : TS := fun D σ H => wi σ H fun J H1 => ∃ W : Nat → Nat → St → Hp → Prop, (∃ m, W 0 m σ H1) ∧ ∀ i m σ H, W i m σ H →
  (J.stop i H ∧ D.nx σ H) ∨ (J.go i H ∧ ∃ N : St → Hp → Prop, (∀ σ' H', N σ' H' → ∃ m', m' < m ∧ W (i + 1) m' σ' H') ∧ ∀ x H', J.yld i H x H' → g x σ H' fun σ2 H2 => tb { D with nx := N, ct := N, bk := D.nx } σ2 H2)
/-- the records at fp as they stand -/
def pinsAt (fp : List Addr) (h : Heap) : List (Addr × Obj) := fp.filterMap fun b => (h.get? b).map fun o => (b, o)
theorem mem_pinsAt {fp : List Addr} {h : Heap} {b : Addr} {o : Obj} (hb : b ∈ fp) (e : h.get? b = some o) : (b, o) ∈ pinsAt fp h := List.mem_filterMap.mpr ⟨b, hb, by rw [e]; rfl⟩
theorem of_pinsAt {fp : List Addr} {h : Heap} {p : Addr × Obj} (hp : p ∈ pinsAt fp h) : p.1 ∈ fp ∧ h.get? p.1 = some p.2 := by
  obtain ⟨b, hb, e⟩ := List.mem_filterMap.mp hp
  cases q : h.get? b with
  | none => rw [q] at e; cases e
  | some o =>
    rw [q] at e
    have e' : (b, o) = p := Option.some.inj e
    subst e'
    exact ⟨hb, q⟩
theorem Inv.pinned {pins : List (Addr × Obj)} {σ : St} {H : Hp} {s : Shared} {fp : List Addr} (I : Inv X pins σ H s) (hf : ∀ b ∈ fp, FpOk X pins H b) (ho : ∀ b ∈ fp, ∃ o, s.heap.get? b = some o ∧ ∀ v, o.data ≠ .cell v) : Inv X (pins ++ pinsAt fp s.heap) σ H s :=
  I.pins_of fun p hp => (List.mem_append.mp hp).elim (fun z => I.pin p (List.mem_append_right _ z)) fun z => by
    obtain ⟨hb, e⟩ := of_pinsAt z
    obtain ⟨f0, f1, f2, _⟩ := hf p.1 hb
    obtain ⟨o, e', d⟩ := ho p.1 hb
    rw [e] at e'; cases e'
    exact ⟨e, f0, f1, f2, d⟩
theorem Inv.unpinned {pins pl : List (Addr × Obj)} {σ : St} {H : Hp} {s : Shared} (I : Inv X (pins ++ pl) σ H s) : Inv X pins σ H s := I.pins_of fun p hp => I.pin p (List.mem_append_right _ (List.mem_append_left _ hp))
theorem ps_for {iter : Expr} {body : List Stmt} {wi : TI} {g : TG} {tb : TS} {pos : Pos} (hp : PassesOwn (model X.prog X.w) X.A X.env X.xe) (hc : X.calm = true) (hi : PI X tg iter wi) (hg : PG X tg g) (hb : PSs X body tb)
    (hs : ∀ x, foldedSetIterable iter X.env x = pure x := by intro _; rfl) : PS X (.For tg iter body [] pos) (tFor wi g tb) := by
  intro pins s σ H D I h
  refine wpAny_For (thn (hi pins s σ H _ I h) fun v s1 h1 => thn h1 fun itv s2 h2 => ?_) hs
  obtain ⟨it, fp, tn, J, H2, e, I2, T, st2, f2, W, ⟨m0, w0⟩, turn⟩ := h2
  subst e
  -- what stays true of the iterator's objects through the loop
  have stat : ∀ {H' : Hp}, (∀ b ∈ fp, H' b = none) → ∀ b ∈ fp, FpOk X pins H' b := fun hn b hb => ⟨hn b hb, (f2 b hb).2⟩
  refine codeAny_forLoop_any (fun n s' => ∃ i σ' H', Inv X pins σ' H' s' ∧ tn i s'.heap ∧ (∀ b ∈ fp, H' b = none) ∧ W i n σ' H') ?_ m0 ⟨0, σ, H2, I2, st2, fun b hb => (f2 b hb).1, w0⟩
  rintro n s3 ⟨i, σ3, H3, I3, st3, fr3, w3⟩
  rcases turn i n σ3 H3 w3 with ⟨stop, qn⟩ | ⟨go, N, hN, step⟩
  · refine wpAny_passesOwn hp (thn (T.done X rfl rfl rfl hc i pins s3 σ3 H3 X.xe I3 (stat fr3) st3 stop) fun r s4 ⟨hr, I4⟩ => ?_)
    subst hr
    exact wpAny_execs_nil ⟨σ3, H3, I4, qn⟩
  · refine wpAny_passesOwn hp (thn (T.item X rfl rfl rfl hc i pins s3 σ3 H3 X.xe I3 (stat fr3) st3 go) fun r s4 ⟨u, hr, h4⟩ => ?_)
    subst hr
    refine wpAny_passesOwn hp (thn h4 fun _ s5 ⟨x, H5, I5, r5, y5, st5, fr5⟩ => ?_)
    have I5' := I5.pinned (stat fr5) (T.obj _ _ st5)
    refine wpAny_passesOwn hp (thn (hg _ s5 σ3 H5 x u _ I5' r5 (step x H5 y5)) fun _ s6 ⟨σ6, H6, I6, q6⟩ => ?_)
    refine wpAny_passesOwn hp (thn (hb _ s6 σ6 H6 _ I6 q6) fun f s7 q7 => ?_)
    have again : ∀ {σ7 : St} {H7 : Hp}, Inv X (pins ++ pinsAt fp s5.heap) σ7 H7 s7 → N σ7 H7 → ∃ m, m < n ∧ ∃ i σ' H', Inv X pins σ' H' s7 ∧ tn i s7.heap ∧ (∀ b ∈ fp, H' b = none) ∧ W i m σ' H' := fun {σ7 H7} I7 n7 => by
      obtain ⟨m', hm, w7⟩ := hN σ7 H7 n7
      refine ⟨m', hm, i + 1, σ7, H7, I7.unpinned, T.keep _ _ _ st5 fun b hb o e => (I7.pin (b, o) (List.mem_append_right _ (List.mem_append_right _ (mem_pinsAt hb e)))).1, fun b hb => ?_, w7⟩
      obtain ⟨o, e, d⟩ := T.obj _ _ st5 b hb
      exact (I7.pin (b, o) (List.mem_append_right _ (List.mem_append_right _ (mem_pinsAt hb e)))).2.1
    cases f with
    | next => obtain ⟨σ7, H7, I7, n7⟩ := q7; exact again I7 n7
    | cont => obtain ⟨σ7, H7, I7, n7⟩ := q7; exact again I7 n7
    | brk => obtain ⟨σ7, H7, I7, q7⟩ := q7; exact ⟨σ7, H7, I7.unpinned, q7⟩
    | ret v => obtain ⟨x7, σ7, H7, I7, r7, q7⟩ := q7; exact ⟨x7, σ7, H7, I7.unpinned, r7, q7⟩
end

/-! ### the forms one uses -/
/-- over a list that the body leaves as it is -/
theorem for_list {K : PySem.W.Frag} {a : Addr} {xs : List V} {g : TG} {tb : TS} {D : Ends} {σ : St} {H : Hp} (Pv : Nat → St → Hp → Prop) (h0 : Pv 0 σ H) (hl : ∀ i σ H, i ≤ xs.length → Pv i σ H → SqL K H a xs)
    (hs : ∀ i x σ H, xs[i]? = some x → Pv i σ H → g x σ H fun σ2 H2 => tb { D with nx := Pv (i + 1), ct := Pv (i + 1), bk := D.nx } σ2 H2) (hd : ∀ σ H, Pv xs.length σ H → D.nx σ H) :
    ∃ W : Nat → Nat → St → Hp → Prop, (∃ m, W 0 m σ H) ∧ ∀ i m σ H, W i m σ H →
      ((Itl K a).stop i H ∧ D.nx σ H) ∨ ((Itl K a).go i H ∧ ∃ N : St → Hp → Prop, (∀ σ' H', N σ' H' → ∃ m', m' < m ∧ W (i + 1) m' σ' H') ∧ ∀ x H', (Itl K a).yld i H x H' → g x σ H' fun σ2 H2 => tb { D with nx := N, ct := N, bk := D.nx } σ2 H2) := by
  refine ⟨fun i m σ H => m = xs.length - i ∧ i ≤ xs.length ∧ Pv i σ H, ⟨xs.length, by simp, Nat.zero_le _, h0⟩, ?_⟩
  rintro i m σ H ⟨rfl, hi, p⟩
  have q := hl i σ H hi p
  by_cases hlt : i < xs.length
  · refine .inr ⟨⟨xs, xs[i], q, by simp [hlt]⟩, Pv (i + 1), fun σ' H' p' => ⟨xs.length - (i + 1), by omega, rfl, hlt, p'⟩, fun x H' y => ?_⟩
    obtain ⟨e, y⟩ := y
    subst e
    exact hs i x σ _ (y xs q) p
  · have e : i = xs.length := by omega
    subst e
    exact .inl ⟨⟨xs, q, Nat.le_refl _⟩, hd σ H p⟩
theorem for_range {lo : Int} {n : Nat} {g : TG} {tb : TS} {D : Ends} {σ : St} {H : Hp} (Pv : Nat → St → Hp → Prop) (h0 : Pv 0 σ H)
    (hs : ∀ i σ H, i < n → Pv i σ H → g (.int (lo + i)) σ H fun σ2 H2 => tb { D with nx := Pv (i + 1), ct := Pv (i + 1), bk := D.nx } σ2 H2) (hd : ∀ σ H, Pv n σ H → D.nx σ H) :
    ∃ W : Nat → Nat → St → Hp → Prop, (∃ m, W 0 m σ H) ∧ ∀ i m σ H, W i m σ H →
      ((Itr lo n).stop i H ∧ D.nx σ H) ∨ ((Itr lo n).go i H ∧ ∃ N : St → Hp → Prop, (∀ σ' H', N σ' H' → ∃ m', m' < m ∧ W (i + 1) m' σ' H') ∧ ∀ x H', (Itr lo n).yld i H x H' → g x σ H' fun σ2 H2 => tb { D with nx := N, ct := N, bk := D.nx } σ2 H2) := by
  refine ⟨fun i m σ H => m = n - i ∧ i ≤ n ∧ Pv i σ H, ⟨n, by simp, Nat.zero_le _, h0⟩, ?_⟩
  rintro i m σ H ⟨rfl, hi, p⟩
  by_cases hlt : i < n
  · refine .inr ⟨hlt, Pv (i + 1), fun σ' H' p' => ⟨n - (i + 1), by omega, rfl, hlt, p'⟩, fun x H' y => ?_⟩
    obtain ⟨e, y⟩ := y
    subst e y
    exact hs i σ _ hlt p
  · have e : i = n := by omega
    subst e
    exact .inl ⟨Nat.le_refl _, hd σ H p⟩
end L2

namespace L2
open PySem PySem.Spec PyProof.Rows

abbrev R2 := V → V → Hp → VK → Prop
/-- a two-place operation on values: f is binaryOp op, inplaceOp op or compareOp op -/
def OpR (X : Cx) (f : Value → Value → Sem Value) (r : R2) : Prop :=
  ∀ (pins : List (Addr × Obj)) (s : Shared) (σ : St) (H : Hp) (x y : V) (v u : Value) (Q : VK), Inv X pins σ H s → RelV x v → RelV y u → r x y H Q →
    wpAny (model X.prog X.w) X.A (f v u) (EP X pins σ Q) X.xe s
/-- a one-place operation -/
def UnR (X : Cx) (f : Value → Sem Value) (r : V → Hp → VK → Prop) : Prop :=
  ∀ (pins : List (Addr × Obj)) (s : Shared) (σ : St) (H : Hp) (x : V) (v : Value) (Q : VK), Inv X pins σ H s → RelV x v → r x H Q →
    wpAny (model X.prog X.w) X.A (f v) (EP X pins σ Q) X.xe s
/-- a call of a value that is known (a builtin, a type) with values -/
def CallR (X : Cx) (f : Value) (r : List V → Hp → VK → Prop) : Prop :=
  ∀ (pins : List (Addr × Obj)) (s : Shared) (σ : St) (H : Hp) (xs : List V) (us : List Value) (Q : VK), Inv X pins σ H s → Vals xs us → r xs H Q →
    wpAny (model X.prog X.w) X.A (call f us) (EP X pins σ Q) X.xe s

def tOp (r : R2) (ta tb : TE) : TE := fun σ H Q => ta σ H fun x H1 => tb σ H1 fun y H2 => r x y H2 Q
def tUn (r : V → Hp → VK → Prop) (ta : TE) : TE := fun σ H Q => ta σ H fun x H1 => r x H1 Q
/-- ints in, under C, and a value out -/
def rI (C : Int → Int → Prop) (g : Int → Int → V) : R2 := fun x y H Q => ∃ i j, x = .int i ∧ y = .int j ∧ C i j ∧ Q (g i j) H
def rI0 (g : Int → Int → V) : R2 := fun x y H Q => ∃ i j, x = .int i ∧ y = .int j ∧ Q (g i j) H
def rU (g : Int → V) : V → Hp → VK → Prop := fun x H Q => ∃ i, x = .int i ∧ Q (g i) H

section
variable {X : Cx} {a b c : Expr} {ta tb tc : TE} {pos : Pos}

theorem binT (ha : PE X a ta) (hb : PE X b tb) {pins : List (Addr × Obj)} {s : Shared} {σ : St} {H : Hp} {R : V → V → Hp → Prop} (I : Inv X pins σ H s)
    (h : ta σ H fun x H1 => tb σ H1 fun y H2 => R x y H2) {Q : Value → Shared → Prop} {f : Value → Value → Sem Value}
    (hf : ∀ v u s2 x y H2, Inv X pins σ H2 s2 → RelV x v → RelV y u → R x y H2 → wpAny (model X.prog X.w) X.A (f v u) Q X.xe s2) :
    wpAny (model X.prog X.w) X.A (eval a X.env) (fun v s₁ => wpAny (model X.prog X.w) X.A (eval b X.env) (fun u s₂ => wpAny (model X.prog X.w) X.A (f v u) Q X.xe s₂) X.xe s₁) X.xe s := by
  refine thn (ha pins s σ H _ I h) fun v s1 ⟨x, H1, I1, r1, q1⟩ => ?_
  refine thn (hb pins s1 σ H1 _ I1 q1) fun u s2 ⟨y, H2, I2, r2, q2⟩ => ?_
  exact hf v u s2 x y H2 I2 r1 r2 q2

theorem pe_op {op : Operator} {r : R2} (ho : OpR X (binaryOp op) r) (ha : PE X a ta) (hb : PE X b tb) : PE X (.BinOp a op b pos) (tOp r ta tb) := by
  intro pins s σ H Q I h
  exact wpAny_BinOp (binT ha hb I h fun v u s2 x y H2 I2 rx ry q => ho pins s2 σ H2 x y v u Q I2 rx ry q)
theorem pe_un {op : UnaryOp} {r : V → Hp → VK → Prop} (ho : UnR X (unaryOp op) r) (ha : PE X a ta) : PE X (.UnaryOp op a pos) (tUn r ta) := by
  intro pins s σ H Q I h
  exact UnaryOp_ (thn (ha pins s σ H _ I h) fun v s1 ⟨x, H1, I1, r1, q1⟩ => ho pins s1 σ H1 x v Q I1 r1 q1)

/-! ### ints -/
theorem opI {f : Value → Value → Sem Value} {C : Int → Int → Prop} {g : Int → Int → Int}
    (rule : ∀ (i j : Int) (t u : Tok) (s : Shared) (Q : Value → Shared → Prop) (E : Value → Shared → Prop), C i j → Q (.int (g i j) s.toks) { s with toks := s.toks + 1 } → wpAny (model X.prog X.w) X.A (f (.int i t) (.int j u)) Q E s) :
    OpR X f (rI C fun i j => .int (g i j)) := by
  intro pins s σ H x y v u Q I rx ry h
  obtain ⟨i, j, rfl, rfl, hc, q⟩ := h
  obtain ⟨t, rfl⟩ := rx
  obtain ⟨t', rfl⟩ := ry
  exact rule i j t t' s _ _ hc ⟨.int (g i j), H, I.tok _, ⟨_, rfl⟩, q⟩
theorem opI0 {f : Value → Value → Sem Value} {g : Int → Int → Int}
    (rule : ∀ (i j : Int) (t u : Tok) (s : Shared) (Q : Value → Shared → Prop) (E : Value → Shared → Prop), Q (.int (g i j) s.toks) { s with toks := s.toks + 1 } → wpAny (model X.prog X.w) X.A (f (.int i t) (.int j u)) Q E s) :
    OpR X f (rI0 fun i j => .int (g i j)) := by
  intro pins s σ H x y v u Q I rx ry h
  obtain ⟨i, j, rfl, rfl, q⟩ := h
  obtain ⟨t, rfl⟩ := rx
  obtain ⟨t', rfl⟩ := ry
  exact rule i j t t' s _ _ ⟨.int (g i j), H, I.tok _, ⟨_, rfl⟩, q⟩
theorem opB0 {f : Value → Value → Sem Value} {g : Int → Int → Bool}
    (rule : ∀ (i j : Int) (t u : Tok) (s : Shared) (Q : Value → Shared → Prop) (E : Value → Shared → Prop), Q (.bool (g i j)) s → wpAny (model X.prog X.w) X.A (f (.int i t) (.int j u)) Q E s) :
    OpR X f (rI0 fun i j => .bl (g i j)) := by
  intro pins s σ H x y v u Q I rx ry h
  obtain ⟨i, j, rfl, rfl, q⟩ := h
  obtain ⟨t, rfl⟩ := rx
  obtain ⟨t', rfl⟩ := ry
  exact rule i j t t' s _ _ ⟨.bl (g i j), H, I, rfl, q⟩

def CDiv (i j : Int) : Prop := 0 < j ∧ j < 1073741824
def CPow (i j : Int) : Prop := 0 ≤ j ∧ j ≤ 1000000 ∧ i.natAbs < 2 ^ 64
def CMul (i j : Int) : Prop := (-(2 ^ 64) < i ∧ i < 2 ^ 64) ∨ (-(2 ^ 64) < j ∧ j < 2 ^ 64)
theorem CMul.ok {i j : Int} (h : CMul i j) : IntMulOk i j := by
  rcases h with ⟨h1, h2⟩ | ⟨h1, h2⟩
  · exact .of_left (intBits_le_64 h1 h2)
  · exact .of_right (intBits_le_64 h1 h2)

theorem op_add : OpR X (binaryOp .Add) (rI0 fun i j => .int (i + j)) := opI0 fun _ _ _ _ _ _ _ q => add_int q
theorem op_sub : OpR X (binaryOp .Sub) (rI0 fun i j => .int (i - j)) := opI0 fun _ _ _ _ _ _ _ q => sub_int q
theorem op_mul : OpR X (binaryOp .Mult) (rI CMul fun i j => .int (i * j)) := opI fun _ _ _ _ _ _ _ hc q => mul_int q hc.ok
/-- // by a positive divisor -/
theorem op_fdiv : OpR X (binaryOp .FloorDiv) (rI CDiv fun i j => .int (i / j)) := opI fun i j _ _ _ _ _ hc q => by
  have h1 : (0 : Int) < j := hc.1
  have h2 : j < 1073741824 := hc.2
  exact floordiv_int (by omega) (by rw [Int.fdiv_eq_ediv_of_nonneg i (by omega)]; exact q) (.inl (PyProof.noPylong_small (by omega)))
/-- % by a positive divisor of any size -/
theorem op_mod : OpR X (binaryOp .Mod) (rI (fun _ j => 0 < j) fun i j => .int (i % j)) := opI fun i j _ _ _ _ _ hc q => by
  have h1 : (0 : Int) < j := hc
  exact mod_int' (by omega) (by rw [Int.fmod_eq_emod_of_nonneg i (by omega)]; exact q)
theorem op_pow : OpR X (binaryOp .Pow) (rI CPow fun i j => .int (i ^ j.toNat)) := opI fun _ _ _ _ _ _ _ hc q => pow_int_small hc.1 hc.2.1 hc.2.2 q


theorem unI {f : Value → Sem Value} {g : Int → Int}
    (rule : ∀ (i : Int) (t : Tok) (s : Shared) (Q : Value → Shared → Prop) (E : Value → Shared → Prop), Q (.int (g i) s.toks) { s with toks := s.toks + 1 } → wpAny (model X.prog X.w) X.A (f (.int i t)) Q E s) :
    UnR X f (rU fun i => .int (g i)) := by
  intro pins s σ H x v Q I rx h
  obtain ⟨i, rfl, q⟩ := h
  obtain ⟨t, rfl⟩ := rx
  exact rule i t s _ _ ⟨.int (g i), H, I.tok _, ⟨_, rfl⟩, q⟩
theorem un_neg : UnR X (unaryOp .USub) (rU fun i => .int (-i)) := unI fun _ _ _ _ _ q => neg_int q

/-! ### bools among ints: n += (a < b) -/
end

/-! ### comparisons -/
/-- the scalars that == tells apart as data does -/
def scal : V → V → Bool
  | .non, .non => true | .non, .int _ => true | .int _, .non => true | .non, .bl _ => true | .bl _, .non => true | .non, .str _ => true | .str _, .non => true
  | .int _, .int _ => true | .bl _, .bl _ => true | .str _, .str _ => true | .byt _, .byt _ => true
  | .int _, .str _ => true | .str _, .int _ => true | .bl _, .str _ => true | .str _, .bl _ => true
  | _, _ => false
def rEq : R2 := fun x y H Q => scal x y = true ∧ Q (.bl (decide (x = y))) H
def rNe : R2 := fun x y H Q => scal x y = true ∧ Q (.bl (!decide (x = y))) H

theorem dec_int {i j : Int} : decide (V.int i = V.int j) = (i == j) := by
  rw [Bool.eq_iff_iff]
  simp
theorem dec_bl {i j : Bool} : decide (V.bl i = V.bl j) = (i == j) := by
  rw [Bool.eq_iff_iff]
  simp
theorem dec_str {i j : Str} : decide (V.str i = V.str j) = (i == j) := by
  rw [Bool.eq_iff_iff]
  simp
theorem dec_byt {i j : Array UInt8} : decide (V.byt i = V.byt j) = (i.toList == j.toList) := by
  rw [Bool.eq_iff_iff]
  cases i
  cases j
  simp

section
variable {X : Cx} {a b c : Expr} {ta tb tc : TE} {pos : Pos}
theorem fin_bl {pins : List (Addr × Obj)} {σ : St} {H : Hp} {s : Shared} {Q : VK} {k k' : Bool} (I : Inv X pins σ H s) (q : Q (.bl k) H) (e : k = k') : EP X pins σ Q (.bool k') s := by
  subst e
  exact ⟨.bl k, H, I, rfl, q⟩
theorem op_eq : OpR X (compareOp .Eq) rEq := by
  intro pins s σ H x y v u Q I rx ry h
  obtain ⟨hs, q⟩ := h
  cases x with
  | non =>
    cases rx
    cases y with
    | non => cases ry; exact PySem.EqNone.eq_none_none (fin_bl I q (by simp))
    | bl j => cases ry; exact PySem.EqNone.eq_none_bool (fin_bl I q (by simp))
    | int j => obtain ⟨t', rfl⟩ := ry; exact PySem.EqNone.eq_none_int (fin_bl I q (by simp))
    | str j => obtain ⟨t', rfl⟩ := ry; exact PySem.EqNone.eq_none_str (fin_bl I q (by simp))
    | _ => exact absurd (show false = true from hs) Bool.false_ne_true
  | bl i =>
    cases rx
    cases y with
    | non => cases ry; exact PySem.EqNone.eq_bool_none (fin_bl I q (by simp))
    | bl j => cases ry; exact eq_bool (fin_bl I q dec_bl)
    | str j => obtain ⟨t', rfl⟩ := ry; exact PySem.EqMixed.eq_bool_str (fin_bl I q (by simp))
    | _ => exact absurd (show false = true from hs) Bool.false_ne_true
  | int i =>
    obtain ⟨t, rfl⟩ := rx
    cases y with
    | non => cases ry; exact PySem.EqNone.eq_int_none (fin_bl I q (by simp))
    | int j => obtain ⟨t', rfl⟩ := ry; exact eq_int (fin_bl I q dec_int)
    | str j => obtain ⟨t', rfl⟩ := ry; exact PySem.EqMixed.eq_int_str (fin_bl I q (by simp))
    | _ => exact absurd (show false = true from hs) Bool.false_ne_true
  | str i =>
    obtain ⟨t, rfl⟩ := rx
    cases y with
    | non => cases ry; exact PySem.EqNone.eq_str_none (fin_bl I q (by simp))
    | bl j => cases ry; exact PySem.EqMixed.eq_str_bool (fin_bl I q (by simp))
    | int j => obtain ⟨t', rfl⟩ := ry; exact PySem.EqMixed.eq_str_int (fin_bl I q (by simp))
    | str j => obtain ⟨t', rfl⟩ := ry; exact eq_str (fin_bl I q dec_str)
    | _ => exact absurd (show false = true from hs) Bool.false_ne_true
  | byt i =>
    obtain ⟨t, rfl⟩ := rx
    cases y with
    | byt j => obtain ⟨t', rfl⟩ := ry; exact PySem.W.eq_bytes (fin_bl I q dec_byt)
    | _ => exact absurd (show false = true from hs) Bool.false_ne_true
  | _ => cases y <;> exact absurd (show false = true from hs) Bool.false_ne_true
theorem op_ne : OpR X (compareOp .NotEq) rNe := by
  intro pins s σ H x y v u Q I rx ry h
  obtain ⟨hs, q⟩ := h
  cases x with
  | non =>
    cases rx
    cases y with
    | non => cases ry; exact PySem.EqNone.ne_none_none (fin_bl I q (by simp))
    | bl j => cases ry; exact PySem.EqNone.ne_none_bool (fin_bl I q (by simp))
    | int j => obtain ⟨t', rfl⟩ := ry; exact PySem.EqNone.ne_none_int (fin_bl I q (by simp))
    | str j => obtain ⟨t', rfl⟩ := ry; exact PySem.EqNone.ne_none_str (fin_bl I q (by simp))
    | _ => exact absurd (show false = true from hs) Bool.false_ne_true
  | bl i =>
    cases rx
    cases y with
    | non => cases ry; exact PySem.EqNone.ne_bool_none (fin_bl I q (by simp))
    | bl j => cases ry; exact ne_bool (fin_bl I q (congrArg not dec_bl))
    | str j => obtain ⟨t', rfl⟩ := ry; exact PySem.EqMixed.ne_bool_str (fin_bl I q (by simp))
    | _ => exact absurd (show false = true from hs) Bool.false_ne_true
  | int i =>
    obtain ⟨t, rfl⟩ := rx
    cases y with
    | non => cases ry; exact PySem.EqNone.ne_int_none (fin_bl I q (by simp))
    | int j => obtain ⟨t', rfl⟩ := ry; exact ne_int (fin_bl I q (congrArg not dec_int))
    | str j => obtain ⟨t', rfl⟩ := ry; exact PySem.EqMixed.ne_int_str (fin_bl I q (by simp))
    | _ => exact absurd (show false = true from hs) Bool.false_ne_true
  | str i =>
    obtain ⟨t, rfl⟩ := rx
    cases y with
    | non => cases ry; exact PySem.EqNone.ne_str_none (fin_bl I q (by simp))
    | bl j => cases ry; exact PySem.EqMixed.ne_str_bool (fin_bl I q (by simp))
    | int j => obtain ⟨t', rfl⟩ := ry; exact PySem.EqMixed.ne_str_int (fin_bl I q (by simp))
    | str j => obtain ⟨t', rfl⟩ := ry; exact ne_str (fin_bl I q (congrArg not dec_str))
    | _ => exact absurd (show false = true from hs) Bool.false_ne_true
  | byt i =>
    obtain ⟨t, rfl⟩ := rx
    cases y with
    | byt j => obtain ⟨t', rfl⟩ := ry; exact PySem.W.ne_bytes (fin_bl I q (congrArg not dec_byt))
    | _ => exact absurd (show false = true from hs) Bool.false_ne_true
  | _ => cases y <;> exact absurd (show false = true from hs) Bool.false_ne_true

theorem op_lt : OpR X (compareOp .Lt) (rI0 fun i j => .bl (decide (i < j))) := opB0 fun _ _ _ _ _ _ _ q => lt_int q
theorem op_le : OpR X (compareOp .LtE) (rI0 fun i j => .bl (decide (i ≤ j))) := opB0 fun _ _ _ _ _ _ _ q => le_int q
theorem op_gt : OpR X (compareOp .Gt) (rI0 fun i j => .bl (decide (j < i))) := opB0 fun _ _ _ _ _ _ _ q => gt_int q
theorem op_ge : OpR X (compareOp .GtE) (rI0 fun i j => .bl (decide (j ≤ i))) := opB0 fun _ _ _ _ _ _ _ q => ge_int q
/-- the one string within the other -/
theorem op_in_str : OpR X (compareOp .In) (fun x y H Q => ∃ i j, x = .str i ∧ y = .str j ∧ Q (.bl (!(Builtin.Str.occurrences j i 0 j.length 1).isEmpty)) H) := by
  intro pins s σ H x y v u Q I rx ry h
  obtain ⟨i, j, rfl, rfl, q⟩ := h
  obtain ⟨t, rfl⟩ := rx
  obtain ⟨t', rfl⟩ := ry
  exact in_str (fin_bl I q rfl)

/-- is None, is not None: the right side a value none -/
theorem op_isN : OpR X (compareOp .Is) (fun x y H Q => y = .non ∧ Q (.bl (decide (x = .non))) H) := by
  intro pins s σ H x y v u Q I rx ry h
  obtain ⟨rfl, q⟩ := h
  cases ry
  refine is_none_gen (fin_bl I q ?_)
  cases x <;> first
    | (cases rx; rfl)
    | (obtain ⟨t, rfl⟩ := rx; rfl)
theorem op_notN : OpR X (compareOp .IsNot) (fun x y H Q => y = .non ∧ Q (.bl (!decide (x = .non))) H) := by
  intro pins s σ H x y v u Q I rx ry h
  obtain ⟨rfl, q⟩ := h
  cases ry
  refine isnot_none_gen (fin_bl I q ?_)
  cases x <;> first
    | (cases rx; rfl)
    | (obtain ⟨t, rfl⟩ := rx; rfl)



theorem nomark (b : Expr) {op : CmpOp} (h : op ≠ .In := by decide) (h2 : op ≠ .NotIn := by decide) : behindInMarks op b = false := by
  have e1 : (op == CmpOp.In) = false := by cases op <;> first | rfl | exact absurd rfl h
  have e2 : (op == CmpOp.NotIn) = false := by cases op <;> first | rfl | exact absurd rfl h2
  cases b <;> simp [behindInMarks, e1, e2]
/-- a comparison as a value; hm: nomark b, or (for in, not in) by with_unfolding_all rfl -/
theorem pe_cmpR {op : CmpOp} {r : R2} (ho : OpR X (compareOp op) r) (ha : PE X a ta) (hb : PE X b tb) (hm : behindInMarks op b = false) : PE X (.Compare a [op] [b] pos) (tOp r ta tb) := by
  intro pins s σ H Q I h
  exact wpAny_Compare1 (binT ha hb I h fun v u s2 x y H2 I2 rx ry q => ho pins s2 σ H2 x y v u Q I2 rx ry q) hm
/-- a reading of a value as a test -/
def tTest (t : TE) : TT := fun σ H Q => t σ H fun x H' => ∃ k, x = .bl k ∧ Q k H'
theorem pt_cmpR {op : CmpOp} {r : R2} (ho : OpR X (compareOp op) r) (ha : PE X a ta) (hb : PE X b tb) (hm : behindInMarks op b = false) : PT X (.Compare a [op] [b] pos) (tTest (tOp r ta tb)) := by
  intro pins s σ H Q I h
  refine wpAny_isTrue_Compare1 (thn (ha pins s σ H _ I h) fun v s1 ⟨x, H1, I1, r1, q1⟩ => thn (hb pins s1 σ H1 _ I1 q1) fun u s2 ⟨y, H2, I2, r2, q2⟩ =>
    thn (ho pins s2 σ H2 x y v u _ I2 r1 r2 q2) fun c s3 ⟨z, H3, I3, r3, k, e, q3⟩ => ?_) hm
  subst e
  cases r3
  exact wpAny_truthy_bool ⟨H3, I3, q3⟩
/-- a op1 b op2 c -/
def tChain (r r' : R2) (ta tb tc : TE) : TE := fun σ H Q => ta σ H fun x H1 => tb σ H1 fun y H2 => r x y H2 fun z H3 => ∃ k, z = .bl k ∧
  (if k = true then tc σ H3 fun w' H4 => r' y w' H4 Q else Q (.bl false) H3)
theorem pe_chain {op op' : CmpOp} {r r' : R2} (ho : OpR X (compareOp op) r) (ho' : OpR X (compareOp op') r') (ha : PE X a ta) (hb : PE X b tb) (hc : PE X c tc)
    (hm : lastMarks [op, op'] [b, c] = false := by with_unfolding_all rfl) : PE X (.Compare a [op, op'] [b, c] pos) (tChain r r' ta tb tc) := by
  intro pins s σ H Q I h
  refine Compare_chain (thn (ha pins s σ H _ I h) fun v s1 ⟨x, H1, I1, r1, q1⟩ => chain_link (thn (hb pins s1 σ H1 _ I1 q1) fun u s2 ⟨y, H2, I2, r2, q2⟩ =>
    thn (ho pins s2 σ H2 x y v u _ I2 r1 r2 q2) fun d s3 ⟨z, H3, I3, r3, k, e, q3⟩ => ?_)) hm
  subst e
  cases r3
  refine wpAny_truthy_bool ?_
  cases k with
  | false => exact ite_ff ⟨.bl false, H3, I3, rfl, q3⟩
  | true => exact ite_tt (chain_last (thn (hc pins s3 σ H3 _ I3 q3) fun w' s4 ⟨z', H4, I4, r4, q4⟩ => ho' pins s4 σ H4 y z' u w' Q I4 r2 r4 q4))
theorem pt_chain {op op' : CmpOp} {r r' : R2} (ho : OpR X (compareOp op) r) (ho' : OpR X (compareOp op') r') (ha : PE X a ta) (hb : PE X b tb) (hc : PE X c tc)
    (hm : lastMarks [op, op'] [b, c] = false := by with_unfolding_all rfl) : PT X (.Compare a [op, op'] [b, c] pos) (tTest (tChain r r' ta tb tc)) := by
  intro pins s σ H Q I h
  refine isTrue_chain (thn (ha pins s σ H _ I h) fun v s1 ⟨x, H1, I1, r1, q1⟩ => test_link (thn (hb pins s1 σ H1 _ I1 q1) fun u s2 ⟨y, H2, I2, r2, q2⟩ =>
    thn (ho pins s2 σ H2 x y v u _ I2 r1 r2 q2) fun d s3 ⟨z, H3, I3, r3, k, e, q3⟩ => ?_)) hm
  subst e
  cases r3
  refine wpAny_truthy_bool ?_
  cases k with
  | false =>
    obtain ⟨k', e', q'⟩ := q3
    cases e'
    exact ite_ff ⟨H3, I3, q'⟩
  | true =>
    refine ite_tt (test_last (thn (hc pins s3 σ H3 _ I3 q3) fun w' s4 ⟨z', H4, I4, r4, q4⟩ => thn (ho' pins s4 σ H4 y z' u w' _ I4 r2 r4 q4) fun d' s5 ⟨z2, H5, I5, r5, k2, e2, q5⟩ => ?_))
    subst e2
    cases r5
    exact wpAny_truthy_bool ⟨H5, I5, q5⟩

/-! ### truth -/
theorem line63 : (sizeLine : Nat) < 2 ^ 63 := by rw [sizeLine_eq]; decide

/-! ### strs and bytes -/
theorem op_add_str : OpR X (binaryOp .Add) (fun x y H Q => ∃ i j, x = .str i ∧ y = .str j ∧ i.length + j.length ≤ sizeLine ∧ Q (.str (i ++ j)) H) := by
  intro pins s σ H x y v u Q I rx ry h
  obtain ⟨i, j, rfl, rfl, hz, q⟩ := h
  obtain ⟨t, rfl⟩ := rx
  obtain ⟨t', rfl⟩ := ry
  exact add_str (fun t' tk => ⟨.str (i ++ j), H, I.tok _, ⟨_, rfl⟩, q⟩) hz


/-! ### scalar builtins, by CallR -/
theorem vals1 {x : V} {us : List Value} (r : Vals [x] us) : ∃ u, us = [u] ∧ RelV x u := by
  cases r with
  | cons r1 r2 => cases r2; exact ⟨_, rfl, r1⟩
theorem vals2 {x y : V} {us : List Value} (r : Vals [x, y] us) : ∃ u w', us = [u, w'] ∧ RelV x u ∧ RelV y w' := by
  cases r with
  | cons r1 r2 =>
    cases r2 with
    | cons r3 r4 => cases r4; exact ⟨_, _, rfl, r1, r3⟩
theorem call_max2 (hc : X.calm = true) : CallR X (.builtin "max") (fun xs H Q => ∃ i j, xs = [.int i, .int j] ∧ Q (.int (if j > i then j else i)) H) := by
  intro pins s σ H xs us Q I r h
  obtain ⟨i, j, rfl, q⟩ := h
  obtain ⟨u, w', rfl, ⟨t, rfl⟩, ⟨t', rfl⟩⟩ := vals2 r
  refine max_two_ints (I.ok.hd hc) fun h' tk k => ⟨_, H, I.kept k, ?_, q⟩
  by_cases hj : j > i
  · rw [if_pos hj, if_pos hj]; exact ⟨_, rfl⟩
  · rw [if_neg hj, if_neg hj]; exact ⟨_, rfl⟩
theorem call_int1 : CallR X (.type "int") (fun xs H Q => (∃ i, xs = [.int i] ∧ Q (.int i) H) ∨ ∃ k, xs = [.bl k] ∧ Q (.int (if k then 1 else 0)) H) := by
  intro pins s σ H xs us Q I r h
  rcases h with ⟨i, rfl, q⟩ | ⟨k, rfl, q⟩
  · obtain ⟨u, rfl, t, rfl⟩ := vals1 r
    exact call_int_int ⟨.int i, H, I, ⟨_, rfl⟩, q⟩
  · obtain ⟨u, rfl, r1⟩ := vals1 r
    cases r1
    exact call_int_bool ⟨.int (if k then 1 else 0), H, I.tok _, ⟨_, rfl⟩, q⟩
end
end L2

namespace L2
open PySem PySem.Spec PyProof.Rows

/-! ### an instance, its attributes a map -/
structure ObjM (h : Heap) (x dx C : Addr) (mA : Str → Option Value) : Prop where
  obj : h.get? x = some (PySem.W.instObj C dx)
  ns : h.Ns1 dx mA
  ne : dx ≠ x

theorem lookIn_ns {h : Heap} {dx : Addr} {mA : Str → Option Value} (n : h.Ns1 dx mA) : ∃ od, h.get? dx = some od ∧ ∀ name, PySem.W.lookIn name od = some (mA name) := by
  obtain ⟨o, es, ep, ho, hd, hk, _, hm⟩ := n
  refine ⟨o, ho, fun name => ?_⟩
  have e := hm name
  unfold nsFind findBy at e
  rw [← Array.find?_toList] at e
  unfold PySem.W.lookIn
  rw [hd]
  dsimp only
  split
  · rename_i y q
    rw [q] at e
    exact congrArg some e
  · rename_i q
    rw [q] at e
    have a : es.toList.any (·.refKey) = false := by
      rw [List.any_eq_false]
      intro y hy
      obtain ⟨z, t, hkey⟩ := hk y (Array.mem_toList_iff.mp hy)
      simp [DictEntry.refKey, hkey]
    have a' : ¬ es.toList.any (·.refKey) = true := by rw [a]; exact Bool.false_ne_true
    rw [if_neg a']
    exact congrArg some e

theorem ObjM.look {h : Heap} {x dx C : Addr} {mA : Str → Option Value} (I : ObjM h x dx C mA) : ∃ od, PySem.W.InstAt h x (PySem.W.instObj C dx) C (some od) ∧ ∀ name, PySem.W.lookIn name od = some (mA name) :=
  let ⟨od, ho, hl⟩ := lookIn_ns I.ns
  ⟨od, ⟨I.obj, rfl, rfl, ho⟩, hl⟩

section
variable {prog : Program} {w : World} {A : Around} {E : Value → Shared → Prop} {s : Shared} {K : PySem.W.Frag} {x dx C f : Addr} {mA : Str → Option Value} {name : Str} {v : Value}

theorem get_map {expr : Bool} {Q : Value → Shared → Prop} (X : K.In s.heap) (I : ObjM s.heap x dx C mA) (hg : PySem.W.plainGet K C name = true) (hh : PySem.W.hasDictIn K C = true)
    (ha : PySem.W.findIn K (.ref C) name = some none) (hv : mA name = some v) (hv' : PySem.W.handedIn v = true) (h : Q v { s with toks := s.toks + 1 }) :
    wpAny (model prog w) A (getAttr (.ref x) name expr) Q E s := by
  obtain ⟨od, J, hl⟩ := I.look
  exact PySem.W.get_value X J (PySem.W.plainGet_of hg).1 (PySem.W.findObj_own hh ha rfl (by rw [hl, hv])) hv' h


theorem get_meth {pl : Sem Bool} {Q : Value × List Value → Shared → Prop} (X : K.In s.heap) (I : ObjM s.heap x dx C mA) (hg : PySem.W.plainGet K C name = true)
    (hf : PySem.W.findIn K (.ref C) name = some (some (.ref f))) (ht : PySem.W.isFn K (.ref f) = true) (hv : mA name = none) (h : Q (.ref f, [.ref x]) s) :
    wpAny (model prog w) A (getMethod (.ref x) name pl) Q E s := by
  obtain ⟨od, J, hl⟩ := I.look
  exact PySem.W.method_fn X J (PySem.W.plainGet_of hg).1 (PySem.W.plainGet_of hg).2 hf (beq_iff_eq.mp ht) (by show (PySem.W.lookIn name od).map (·.isSome) = some false; rw [hl, hv]; rfl) h

theorem set_map {ns : List Str} {Q : Unit → Shared → Prop} (X : K.In s.heap) (I : ObjM s.heap x dx C mA)
    (hs : PySem.W.findIn K (.ref C) "__setattr__" = some (some (.builtin "object.__setattr__"))) (hp : PySem.W.plainOver K C = true) (ht : PySem.W.takerIn K C name = some none) (hh : PySem.W.hasDictIn K C = true)
    (hw : PySem.Within mA ns) (hsz : ns.length ≤ sizeLine)
    (h : ∀ h', ObjM h' x dx C (fun y => if y = name then some v else mA y) → Heap.SameBut dx s.heap h' → Q () { s with heap := h', toks := s.toks + 2 }) :
    wpAny (model prog w) A (setAttr (.ref x) name v) Q E s := by
  obtain ⟨od, J, hl⟩ := I.look
  refine PySem.W.set_plain X J hs (PySem.W.osa_open (s := { s with toks := s.toks + 1 }) (r := none) X J hp ht fun b => ?_)
  obtain ⟨cd, hc, hd'⟩ := PySem.W.any_some hh
  have hx : s.heap.get? x = some ⟨.ref C, some dx, .plain, #[]⟩ := I.obj
  refine wpAny_bind (wpAny_pure (wpAny_bind (wpAny_bind (wpAny_loadPart hx (wpAny_bind (PySem.W.Looks.here (s := { s with toks := s.toks + 1 }) (PySem.W.looks_clsIn X hc) ?_))))))
  rw [hd']
  refine wpAny_pure (a := some dx) (wpAny_bind (wpAny_pure (wpAny_bind ?_)))
  refine wpAny_nsSet1 (s := { s with toks := s.toks + 1 }) I.ns fun h' hn2 hs2 => ?_
  obtain ⟨oD, esD, epD, hoD, hdD, hcD⟩ := hn2.count (PySem.Within.cons name v hw)
  refine wpAny_bind (wpAny_lookBehind hoD (by rw [hdD]; exact pastItsLine_dict (Nat.le_trans hcD (by rw [List.length_cons]; omega))) ?_)
  exact wpAny_pure (h _ ⟨(hs2.2 _ (Ne.symm I.ne)).trans I.obj, hn2, I.ne⟩ hs2)

/-- C(..): the dict at the heap's end, the instance behind it; then its __init__ -/
theorem make_map {R : Result → Shared → Prop} {vs : List Value} {kw : List (Str × Value)} (X : K.In s.heap) (hm : PySem.W.makesIn K C = true)
    (hi : PySem.W.findIn K (.ref C) "__init__" = some (some (.ref f))) (hf : PySem.W.typeIn K (.ref f) = some (.type "function"))
    (h : codeAny (model prog w) (A.under (.builtin "type.__call__" ⟨.ref C :: vs, kw⟩)) (.call (.ref f) ⟨.ref (s.heap.objs.size + 1) :: vs, kw⟩) (PySem.W.InitBack (s.heap.objs.size + 1) R)
      { s with heap := (s.heap.push PySem.W.emptyDict).push (PySem.W.instObj C s.heap.objs.size) }) :
    codeAny (model prog w) A (.call (.ref C) ⟨vs, kw⟩) R s := by
  obtain ⟨hh, g, d, t, os⟩ := s
  exact PySem.W.make_core (PySem.W.makes_of X hm) (PySem.W.looks_findIn X hi) (fun self => PySem.W.bind_fn X self hf) (.inl rfl) h
end

/-! ### the attributes as a list of pairs -/
def putF (f : Str) (v : V) : List (Str × V) → List (Str × V)
  | [] => [(f, v)]
  | (g, x) :: r => if g = f then (g, v) :: r else (g, x) :: putF f v r
theorem lookup_putF (f g : Str) (v : V) : ∀ fs : List (Str × V), (putF f v fs).lookup g = if g = f then some v else fs.lookup g
  | [] => by
    show List.lookup g [(f, v)] = _
    by_cases h : g = f
    · have hb : (g == f) = true := beq_iff_eq.mpr h
      simp only [List.lookup, hb, if_pos h]
    · have hb : (g == f) = false := beq_eq_false_iff_ne.mpr h
      simp only [List.lookup, hb, if_neg h]
  | (k, x) :: r => by
    have ih := lookup_putF f g v r
    rw [show putF f v ((k, x) :: r) = (if k = f then (k, v) :: r else (k, x) :: putF f v r) from rfl]
    by_cases hk : k = f
    · rw [if_pos hk]
      by_cases h : g = k
      · have hb : (g == k) = true := beq_iff_eq.mpr h
        simp only [List.lookup, hb, if_pos (h.trans hk)]
      · have hb : (g == k) = false := beq_eq_false_iff_ne.mpr h
        simp only [List.lookup, hb, if_neg (fun e : g = f => h (e.trans hk.symm))]
    · rw [if_neg hk]
      by_cases h : g = k
      · have hb : (g == k) = true := beq_iff_eq.mpr h
        simp only [List.lookup, hb, if_neg (fun e : g = f => hk (h.symm.trans e))]
      · have hb : (g == k) = false := beq_eq_false_iff_ne.mpr h
        simp only [List.lookup, hb]
        exact ih
theorem keys_putF (f : Str) (v : V) : ∀ fs : List (Str × V), f ∈ (putF f v fs).map (·.1) ∧ ∀ g, g ∈ fs.map (·.1) → g ∈ (putF f v fs).map (·.1)
  | [] => ⟨by simp [putF], fun g h => by simp at h⟩
  | (k, x) :: r => by
    obtain ⟨i1, i2⟩ := keys_putF f v r
    rw [show putF f v ((k, x) :: r) = (if k = f then (k, v) :: r else (k, x) :: putF f v r) from rfl]
    by_cases hk : k = f
    · rw [if_pos hk]
      subst hk
      exact ⟨by simp, fun g h => by simpa using h⟩
    · rw [if_neg hk]
      refine ⟨?_, fun g h => ?_⟩
      · rw [List.map_cons]
        exact List.mem_cons_of_mem _ i1
      · rw [List.map_cons] at h ⊢
        rcases List.mem_cons.mp h with e | e
        · exact List.mem_cons.mpr (.inl e)
        · exact List.mem_cons_of_mem _ (i2 g e)
theorem length_putF (f : Str) (v : V) : ∀ fs : List (Str × V), (putF f v fs).length ≤ fs.length + 1
  | [] => by simp [putF]
  | (k, x) :: r => by
    have ih := length_putF f v r
    rw [show putF f v ((k, x) :: r) = (if k = f then (k, v) :: r else (k, x) :: putF f v r) from rfl]
    by_cases hk : k = f
    · rw [if_pos hk, List.length_cons, List.length_cons]; omega
    · rw [if_neg hk, List.length_cons, List.length_cons]; omega

theorem RelO.some_of {v : V} {o : Option Value} (r : RelO (some v) o) : ∃ u, o = some u ∧ RelV v u := by
  cases o with
  | none => exact (show False from r).elim
  | some u => exact ⟨u, rfl, r⟩
theorem RelO.none_of {o : Option Value} (r : RelO none o) : o = none := by
  cases o with
  | none => rfl
  | some u => exact (show False from r).elim
theorem handed_of {v : V} {u : Value} (r : RelV v u) : PySem.W.handedIn u = true := by
  cases v with
  | non => cases (show u = Value.none from r); rfl
  | bl b => cases (show u = Value.bool b from r); rfl
  | int i => obtain ⟨t, e⟩ := (show ∃ t, u = Value.int i t from r); cases e; rfl
  | str x => obtain ⟨t, e⟩ := (show ∃ t, u = Value.str x t from r); cases e; rfl
  | byt b => obtain ⟨t, e⟩ := (show ∃ t, u = Value.bytes b t from r); cases e; rfl
  | flt b => obtain ⟨t, e⟩ := (show ∃ t, u = Value.float b t from r); cases e; rfl
  | ref a => cases (show u = Value.ref a from r); rfl
  | ty n => cases (show u = Value.type n from r); rfl

section
variable {P : Program} {w : World} {H H' : Hp} {h h' : Heap} {a C dx : Addr} {fs fs' : List (Str × V)}
theorem ins_get (hok : HOk P w H h) (e : H a = some (.ins C dx fs)) : ∃ mA, ObjM h a dx C mA ∧ (∀ f, RelO (fs.lookup f) (mA f)) ∧ PySem.Within mA (fs.map (·.1)) ∧ fs.length ≤ 1000 ∧ H dx = some (.own a) := by
  obtain ⟨d, z, ne, ob, mA, n, r, q⟩ := (show ObjOk P w H h a (.ins C dx fs) from hok a _ e)
  exact ⟨mA, ⟨ob, n, ne⟩, r, q, z, d⟩
end

/-! ### what of the text a class must have -/
structure Cls (K : PySem.W.Frag) (C : Addr) : Prop where
  pg : PySem.W.plainGet K C Str.empty = true
  hd : PySem.W.hasDictIn K C = true
  po : PySem.W.plainOver K C = true
  sa : PySem.W.findIn K (.ref C) "__setattr__" = some (some (.builtin "object.__setattr__"))
theorem Cls.get {K : PySem.W.Frag} {C : Addr} (c : Cls K C) (f : Str) : PySem.W.plainGet K C f = true := c.pg
/-- no class of it has the name -/
def NoAttr (K : PySem.W.Frag) (C : Addr) (f : Str) : Prop := PySem.W.findIn K (.ref C) f = some none
theorem NoAttr.taker {K : PySem.W.Frag} {C : Addr} {f : Str} (n : NoAttr K C f) : PySem.W.takerIn K C f = some none := by
  unfold PySem.W.takerIn
  rw [show PySem.W.findIn K (.ref C) f = some none from n]
  rfl
/-- a constant of the class -/
structure Con (K : PySem.W.Frag) (C : Addr) (f : Str) (v : V) (u : Value) : Prop where
  at_ : PySem.W.findIn K (.ref C) f = some (some u)
  rel : RelV v u
  get : PySem.W.specialIn K u "__get__" = some none
  cp : PySem.W.copiedNames.contains f = false
/-- a method: a plain def of the class or of one above it -/
structure Meth (K : PySem.W.Frag) (C : Addr) (m : Str) (f : Addr) : Prop where
  at_ : PySem.W.findIn K (.ref C) m = some (some (.ref f))
  fn : PySem.W.isFn K (.ref f) = true
  kp : PySem.W.keepIn K (.ref f) = true

section
variable {X : Cx} {pins : List (Addr × Obj)} {σ : St} {H : Hp} {s : Shared} {a C dx : Addr} {fs : List (Str × V)} {f : Str} {v : V} {A : Around} {E : Value → Shared → Prop}

theorem getattr_ok {b : Bool} {Q : Value → Shared → Prop} (I : Inv X pins σ H s) (e : H a = some (.ins C dx fs)) (c : Cls X.K C) (n : NoAttr X.K C f) (l : fs.lookup f = some v)
    (h : ∀ u s', Inv X pins σ H s' → RelV v u → Q u s') : wpAny (model X.prog X.w) A (getAttr (.ref a) f b) Q E s := by
  obtain ⟨mA, O, r, _, _, _⟩ := ins_get I.hok e
  obtain ⟨u, hu, ru⟩ := RelO.some_of (v := v) (o := mA f) (by rw [← l]; exact r f)
  exact get_map I.kIn O (c.get f) c.hd n hu (handed_of ru) (h u _ (I.tok _) ru)


theorem getmeth_ok {m : Str} {g : Addr} {pl : Sem Bool} {Q : Value × List Value → Shared → Prop} (I : Inv X pins σ H s) (e : H a = some (.ins C dx fs)) (c : Cls X.K C) (k : Meth X.K C m g) (l : fs.lookup m = none)
    (h : Q (.ref g, [.ref a]) s) : wpAny (model X.prog X.w) A (getMethod (.ref a) m pl) Q E s := by
  obtain ⟨mA, O, r, _, _, _⟩ := ins_get I.hok e
  have hn : mA m = none := RelO.none_of (by rw [← l]; exact r m)
  exact get_meth I.kIn O (c.get m) k.at_ k.fn hn h

theorem setattr_ok {y : V} {u : Value} {Q : Unit → Shared → Prop} (I : Inv X pins σ H s) (e : H a = some (.ins C dx fs)) (c : Cls X.K C) (n : NoAttr X.K C f) (hl : fs.length < 1000) (ry : RelV y u)
    (h : ∀ s', Inv X pins σ (upd H a (.ins C dx (putF f y fs))) s' → Q () s') : wpAny (model X.prog X.w) A (setAttr (.ref a) f u) Q E s := by
  obtain ⟨mA, O, r, wi, _, ho⟩ := ins_get I.hok e
  have hz : (fs.map (·.1)).length ≤ sizeLine := by rw [List.length_map, sizeLine_eq]; omega
  refine set_map I.kIn O c.sa c.po n.taker c.hd wi hz fun h' O' sb => h _ ?_
  have hd : ∃ o, h'.get? dx = some o := let ⟨o, _, _, e', _⟩ := O'.ns; ⟨o, e'⟩
  refine I.write (x := a) (e := dx) (by rw [e]; exact True.intro) (.inr ho) (fun b q hb z => (sb.2 b hb).trans z) hd ?_
  refine ⟨by rw [upd_ne O.ne]; exact ho, ?_, O.ne, O'.obj, _, O'.ns, fun g => ?_, fun g hg => ?_⟩
  · have := length_putF f y fs; omega
  · show RelO ((putF f y fs).lookup g) (if g = f then some u else mA g)
    rw [lookup_putF]
    by_cases q : g = f
    · rw [if_pos q, if_pos q]; exact ry
    · rw [if_neg q, if_neg q]; exact r g
  · by_cases q : g = f
    · rw [q]; exact (keys_putF f y fs).1
    · refine (keys_putF f y fs).2 g (wi g fun z => hg ?_)
      show (if g = f then some u else mA g) = none
      rw [if_neg q]; exact z

/-- a new instance, tracked, without attributes -/
theorem Inv.made (I : Inv X pins σ H s) : Inv X pins σ (upd (upd H s.heap.objs.size (.own (s.heap.objs.size + 1))) (s.heap.objs.size + 1) (.ins C s.heap.objs.size []))
    { s with heap := (s.heap.push PySem.W.emptyDict).push (PySem.W.instObj C s.heap.objs.size) } := by
  have e1 : (s.heap.push PySem.W.emptyDict).get? s.heap.objs.size = some PySem.W.emptyDict := Heap.get?_push_size s.heap rfl
  have e2 : ((s.heap.push PySem.W.emptyDict).push (PySem.W.instObj C s.heap.objs.size)).get? (s.heap.objs.size + 1) = some (PySem.W.instObj C s.heap.objs.size) := by
    have := Heap.get?_push_size (s.heap.push PySem.W.emptyDict) (o := PySem.W.instObj C s.heap.objs.size) rfl
    rwa [Heap.size_push] at this
  have e3 : (s.heap.push PySem.W.emptyDict).Ns s.heap.objs.size (fun _ => none) := ⟨PySem.W.emptyDict, #[], _, e1, rfl, (fun e he => absurd he (by simp)), fun _ => rfl⟩
  have I1 := I.laid (a := s.heap.objs.size) (o := .own (s.heap.objs.size + 1)) (h' := s.heap.push PySem.W.emptyDict) (t' := s.toks) (fun b u q => Heap.get?_push_of_some _ q) (Nat.le_refl _) ⟨_, e1⟩
  refine I1.laid (a := s.heap.objs.size + 1) (o := .ins C s.heap.objs.size []) (t' := s.toks) (fun b u q => Heap.get?_push_of_some _ q) (Nat.le_of_eq (Heap.size_push _ _)) ?_
  have ne : s.heap.objs.size ≠ s.heap.objs.size + 1 := Nat.ne_of_lt (Nat.lt_succ_self _)
  refine ⟨by rw [upd_ne ne, upd_same], Nat.zero_le _, ne, e2, fun _ => none, (Heap.Ns1.of_empty e3).at fun o q => Heap.get?_push_of_some _ q, fun _ => True.intro, fun y hy => absurd rfl hy⟩

/-- e.f where nothing but the object is asked: through attributeBase (super) and the last hold -/
theorem attr_of {prog : Program} {w : World} {env : Env} {e : Expr} {f : Str} {pos : Pos} {s : Shared} {Q : Value → Shared → Prop} (hb : attributeBase e f env (eval e env) = eval e env)
    (h : wpAny (model prog w) A (eval e env) (fun o s₁ => wpAny (model prog w) A (getAttr o f true) Q E s₁) E s) : wpAny (model prog w) A (eval (.Attribute e f pos) env) Q E s :=
  Attribute_any_ h (by rw [arm_eval_Attribute, hb])
end

/-! ### readings and rules -/
/-- e.f, an attribute of the instance -/
def tFld (K : PySem.W.Frag) (ta : TE) (f : Str) : TE := fun σ H Q => ta σ H fun x H1 => ∃ a C dx fs v, x = .ref a ∧ H1 a = some (.ins C dx fs) ∧ Cls K C ∧ NoAttr K C f ∧ fs.lookup f = some v ∧ Q v H1
/-- e.f = value -/
def sFld (K : PySem.W.Frag) (ta tv : TE) (f : Str) : TS := fun D σ H => tv σ H fun y H1 => ta σ H1 fun x H2 => ∃ a C dx fs, x = .ref a ∧ H2 a = some (.ins C dx fs) ∧ Cls K C ∧ NoAttr K C f ∧ fs.length < 1000 ∧
  D.nx σ (upd H2 a (.ins C dx (putF f y fs)))

section
variable {X : Cx} {o e value : Expr} {f : Str} {pos pos' tpos : Pos} {ta tv : TE}
theorem pe_fld (he : PE X e ta) (hb : attributeBase e f X.env (eval e X.env) = eval e X.env) : PE X (.Attribute e f pos) (tFld X.K ta f) := by
  intro pins s σ H Q I h
  refine attr_of hb (thn (he pins s σ H _ I h) fun u s1 ⟨x, H1, I1, rx, a, C, dx, fs, v, ex, ea, c, n, l, q⟩ => ?_)
  subst ex
  obtain rfl : u = Value.ref a := rx
  exact getattr_ok I1 ea c n l fun u' s2 I2 ru => ⟨v, H1, I2, ru, q⟩
theorem ps_fld (ha : PE X o ta) (hv : PE X value tv) (hs : swapsWith value (some (.Attribute o f pos')) pos.line X.env = pure false) : PS X (.Assign [.Attribute o f pos'] value pos) (sFld X.K ta tv f) := by
  intro pins s σ H D I h
  refine plainObj_wpAny_Assign_Attribute (thn (hv pins s σ H _ I h) fun u s1 ⟨y, H1, I1, ry, q⟩ => thn (ha pins s1 σ H1 _ I1 q) fun ov s2 ⟨x, H2, I2, rx, a, C, dx, fs, ex, ea, c, n, l, q2⟩ => ?_) hs
  subst ex
  obtain rfl : ov = Value.ref a := rx
  exact setattr_ok I2 ea c n l ry fun s3 I3 => ⟨σ, _, I3, q2⟩

/-- what is between an instance and its method: the tree of a method call -/
theorem methcall_of {pl : Sem Bool} {m : Str} {apos : Pos} {args : List Expr} {pins : List (Addr × Obj)} {s : Shared} {σ : St} {H : Hp} {Q : Value → Shared → Prop} {te : TE} (he : PE X e te) (I : Inv X pins σ H s)
    (h : te σ H fun x H1 => ∃ a C dx fs g, x = .ref a ∧ H1 a = some (.ins C dx fs) ∧ Cls X.K C ∧ Meth X.K C m g ∧ fs.lookup m = none ∧
      ∀ s1, Inv X pins σ H1 s1 → wpAny (model X.prog X.w) X.A (callWith pos (.ref g) [.ref a] (backTo pos (starEach args X.env)) (backToKw pos (keywordEach [] X.env))) Q X.xe s1)
    (ht : eval (.Call (.Attribute e m apos) args [] pos) X.env = (do
      let ov ← eval e X.env
      standAt apos.atName
      let (f, first) ← holding [ov] (getMethod ov m pl)
      callWith pos f first (backTo pos (starEach args X.env)) (backToKw pos (keywordEach [] X.env)))) :
    wpAny (model X.prog X.w) X.A (eval (.Call (.Attribute e m apos) args [] pos) X.env) Q X.xe s := by
  refine PySem.W.methodCall_KW (pl := pl) (thn (he pins s σ H _ I h) fun u s1 ⟨x, H1, I1, rx, a, C, dx, fs, g, ex, ea, c, k, l, q⟩ => ?_) ht
  subst ex
  obtain rfl : u = Value.ref a := rx
  exact getmeth_ok I1 ea c k l (q s1 I1)
end

/-! ### isinstance -/
section
variable {X : Cx} {pins : List (Addr × Obj)} {σ : St} {H : Hp} {s : Shared} {A : Around} {E : Value → Shared → Prop} {Q : Value → Shared → Prop} {c : Value} {b : Bool}
/-- the type of a value, as the fragment's deciders take it; for an instance its class -/
inductive TyOf (K : PySem.W.Frag) (H : Hp) : V → Value → Prop where
  | non : TyOf K H .non (.type "NoneType")
  | bl (x : Bool) : TyOf K H (.bl x) (.type "bool")
  | int (i : Int) : TyOf K H (.int i) (.type "int")
  | str (x : Str) : TyOf K H (.str x) (.type "str")
  | flt (x : UInt64) : TyOf K H (.flt x) (.type "float")
  | lst {a : Addr} {xs : List V} (e : H a = some (.lst xs)) : TyOf K H (.ref a) (.type "list")
  | frz {a : Addr} {o : Obj} {xs : List V} (e : H a = some (.frz o (.lst xs))) : TyOf K H (.ref a) (.type "list")
  | tup {a : Addr} {xs : List V} (e : H a = some (.tup xs)) : TyOf K H (.ref a) (.type "tuple")
  | dK {a : Addr} {kvs : List (Key × V)} (e : H a = some (.dK kvs)) : TyOf K H (.ref a) (.type "dict")
  | dT {a : Addr} {kvs : List (List Key × V)} (e : H a = some (.dT kvs)) : TyOf K H (.ref a) (.type "dict")
  | ins {a C dx : Addr} {fs : List (Str × V)} (e : H a = some (.ins C dx fs)) (cl : Cls K C) (ha : PySem.W.findIn K (.ref C) "__class__" = some (some (.builtin "object.__class__")))
      (hn : PySem.W.specialIn K (.builtin "object.__class__") "__get__" = some (some (.builtin "getset_descriptor.__get__"))) (htk : PySem.W.takesIn K (.builtin "object.__class__") = some true)
      (hm : PySem.W.mroIn K C (.type "object") = some true) : TyOf K H (.ref a) (.ref C)
end
end L2

namespace L2
open PySem PySem.Spec PyProof.Rows

/-! ### room -/
structure Room (k : Nat) (A : Around) : Prop where
  hd : A.handled = none
  dp : A.depth + 3 * k + 5 < recursionLimit
  un : A.units + 16 * k + 200 < cLine
theorem Room.mono {j k : Nat} {A : Around} (r : Room k A) (h : j ≤ k) : Room j A := ⟨r.hd, by have := r.dp; omega, by have := r.un; omega⟩
theorem Room.deeper {k : Nat} {A : Around} (r : Room (k + 1) A) (env : Env) : Room k (A.deeper env) :=
  ⟨r.hd, by have := r.dp; show A.depth + 1 + 3 * k + 5 < _; omega, by have := r.un; show A.units + 3 + 16 * k + 200 < _; omega⟩
theorem make_depth {A : Around} {C : Addr} {us : List Value} {kw : List (Str × Value)} : (A.under (.builtin "type.__call__" ⟨.ref C :: us, kw⟩)).depth = A.depth + 1 := by
  first | rfl | simp [Around.under, Code.weight, Code.isCreation, Code.isGuard, Code.isCaller, Code.frames, Code.isFrame, guardIds]
theorem make_units {A : Around} {C : Addr} {us : List Value} {kw : List (Str × Value)} : (A.under (.builtin "type.__call__" ⟨.ref C :: us, kw⟩)).units = A.units + 1 := by
  first | rfl | simp [Around.under, Code.cUnits, Code.frames, Code.isFrame]
theorem Room.make {k : Nat} {A : Around} (r : Room (k + 1) A) (C : Addr) (us : List Value) (kw : List (Str × Value)) : Room k (A.under (.builtin "type.__call__" ⟨.ref C :: us, kw⟩)) :=
  ⟨r.hd, by have := r.dp; rw [make_depth]; omega, by have := r.un; rw [make_units]; omega⟩
theorem Room.depth {k : Nat} {A : Around} (r : Room k A) : A.depth < recursionLimit := by have := r.dp; omega
theorem Room.units {k : Nat} {A : Around} (r : Room k A) : A.units + 64 < cLine := by have := r.un; omega

/-! ### argument lists and displays -/
def tNil : TA := fun _ H Q => Q [] H
def tCons (ta : TE) (tr : TA) : TA := fun σ H Q => ta σ H fun x H1 => tr σ H1 fun xs H2 => Q (x :: xs) H2
section
variable {X : Cx} {e : Expr} {es : List Expr} {te : TE} {t : TA} {pos : Pos}
theorem pa_nil : PA X [] tNil := fun _ _ _ _ H Q I h => Calls.spliced_nil ⟨[], H, I, .nil, h⟩
theorem pa_cons (ha : PE X e te) (hr : PA X es t) (hs : starEach (e :: es) X.env = (false, eval e X.env) :: starEach es X.env := by rfl) : PA X (e :: es) (tCons te t) := by
  intro pos pins s σ H Q I h
  rw [hs]
  show wpAny _ _ (spliced ((false, eval e X.env) :: backTo pos (starEach es X.env))) _ _ s
  refine Calls.spliced_cons (thn (ha pins s σ H _ I h) fun u s1 ⟨x, H1, I1, r1, q1⟩ => ?_)
  exact thn (hr pos pins s1 σ H1 _ I1 q1) fun us s2 ⟨xs, H2, I2, r2, q2⟩ => ⟨x :: xs, H2, I2, .cons r1 r2, q2⟩

/-- a tuple, a list of written items -/
def tTup (t : TA) : TE := fun σ H Q => t σ H fun xs H1 => xs.length ≤ sizeLine ∧ ∀ p, H1 p = none → Q (.ref p) (upd H1 p (.tup xs))
def tLst (t : TA) : TE := fun σ H Q => t σ H fun xs H1 => xs.length ≤ sizeLine ∧ ∀ p, H1 p = none → Q (.ref p) (upd H1 p (.lst xs))
theorem pe_tup {x1} (h : PA X es t) : PE X (.Tuple es x1 pos) (tTup t) := by
  intro pins s σ H Q I hq
  refine wpAny_Tuple_spliced (thn (h pos pins s σ H _ I hq) fun us s1 ⟨xs, H1, I1, r, z, q⟩ => ⟨by rw [← r.length]; exact z, ?_⟩)
  have hf : H1 s1.heap.objs.size = none := I1.hok.fresh (Nat.le_refl _)
  refine ⟨.ref s1.heap.objs.size, upd H1 s1.heap.objs.size (.tup xs), I1.laid (t' := s1.toks) (fun b u e => Heap.get?_push_of_some _ e) (Nat.le_refl _) ?_, rfl, q _ hf⟩
  exact ⟨z, us, r, ⟨_, Heap.get?_push_size _ rfl, rfl, _, rfl⟩⟩
theorem pe_lst (h : PA X es t) : PE X (.List es pos) (tLst t) := by
  intro pins s σ H Q I hq
  refine wpAny_List_spliced (thn (h pos pins s σ H _ I hq) fun us s1 ⟨xs, H1, I1, r, z, q⟩ => ⟨by rw [← r.length]; exact z, ?_⟩)
  have hf : H1 s1.heap.objs.size = none := I1.hok.fresh (Nat.le_refl _)
  refine ⟨.ref s1.heap.objs.size, upd H1 s1.heap.objs.size (.lst xs), I1.laid (t' := s1.toks) (fun b u e => Heap.get?_push_of_some _ e) (Nat.le_refl _) ?_, rfl, q _ hf⟩
  exact ⟨z, us, 0, r, Heap.get?_push_size _ rfl⟩
end

/-! ### what a def promises -/
/-- a def's promise: the bound arguments in the parameters' order, the heap, the wanted end, the wanted exception -/
abbrev Sp := List V → Hp → VK → XK → Prop
/-- how an exception lies behind a call (file 08 gives it): the callers' frames, abstract heap and state ahead of the call, the wish, the exception, the state -/
abbrev CXT := List Env → Hp → Shared → XK → Value → Shared → Prop

/-- the state at a call -/
structure Env0 (P : Program) (w : World) (K : PySem.W.Frag) (mg : Str → Option Value) (base : Heap) (A : Around) (outer : List Env) (s : Shared) (H : Hp) : Prop where
  frames : A.frames = some outer
  mod : Mod K mg base
  bs : ∀ b o, base.get? b = some o → s.heap.get? b = some o ∧ H b = none
  bsz : base.objs.size ≤ s.heap.objs.size
  funs : s.heap.FunFrames base outer
  frf : ∀ b ∈ frs outer, H b = none
  hok : HOk P w H s.heap
  bare : AllBare s.gens
/-- a call's end -/
def CE (outer : List Env) (P : Program) (w : World) (H : Hp) (s : Shared) (Q : VK) (u : Value) (s' : Shared) : Prop :=
  ∃ v H', s'.os = s.os ∧ AllBare s'.gens ∧ Un (frs outer) [] H H' s.heap s'.heap ∧ HOk P w H' s'.heap ∧ RelV v u ∧ Q v H'
def CR (CX : CXT) (outer : List Env) (P : Program) (w : World) (H : Hp) (s : Shared) (Q : VK) (E : XK) (r : Result) (s' : Shared) : Prop :=
  match r with
  | .ok (.ret u) => CE outer P w H s Q u s'
  | .ok _ => False
  | .error e => CX outer H s E e s'
structure FnOk (P : Program) (w : World) (K : PySem.W.Frag) (mg : Str → Option Value) (base : Heap) (CX : CXT) (k : Nat) (f : Addr) (fd : FuncData) (ps : List Str) (sp : Sp) : Prop where
  len : ∀ vs H Q E, sp vs H Q E → vs.length = ps.length
  run : ∀ (A : Around) (outer : List Env) (s : Shared) (H : Hp) (args : Args) (us : List Value) (vs : List V) (Q : VK) (E : XK), Room k A → Env0 P w K mg base A outer s H → BindsTo s fd args (ps.zip us) → Vals vs us → sp vs H Q E →
    codeAny (model P w) A (.call (.ref f) args) (CR CX outer P w H s Q E) s

theorem Env0.make {P : Program} {w : World} {K : PySem.W.Frag} {mg : Str → Option Value} {base : Heap} {A : Around} {outer : List Env} {s : Shared} {H : Hp} (e : Env0 P w K mg base A outer s H) (C : Addr) (us : List Value) (kw : List (Str × Value)) :
    Env0 P w K mg base (A.under (.builtin "type.__call__" ⟨.ref C :: us, kw⟩)) outer s H := ⟨by first | exact e.frames | (simpa [Around.under, Code.envs, Code.isFrame, pushEnvs] using e.frames), e.mod, e.bs, e.bsz, e.funs, e.frf, e.hok, e.bare⟩

section
variable {X : Cx} {pins : List (Addr × Obj)} {σ : St} {H : Hp} {s s' : Shared}
/-- from a body: what a callee wants -/
theorem Inv.env0 (I : Inv X pins σ H s) : Env0 X.prog X.w X.K X.mg X.base X.A X.stack s H :=
  ⟨I.ok.frames, I.ok.mod, I.bs, Nat.le_trans I.ok.bsz I.sz, I.stack, I.stkFree, I.hok, I.bare⟩
/-- behind a call -/
theorem Inv.after {Q : VK} {u : Value} (I : Inv X pins σ H s) (h : CE X.stack X.prog X.w H s Q u s') : EP X pins σ Q u s' := by
  obtain ⟨v, H', os, bare, un, hok, r, q⟩ := h
  obtain ⟨hh, g, d, t, os'⟩ := s'
  obtain rfl : os' = s.os := os
  exact ⟨v, H', I.call (h' := hh) (g' := g) (d' := d) (t' := t) (ch := []) un hok bare (fun b z => absurd z (by simp)), r, q⟩
end

/-! ### calls -/
/-- f(..): the written arguments, then the defaults dvs; E: what is wanted of an exception -/
def tCall (sp : Sp) (dvs : List V) (E : XK) (t : TA) : TE := fun σ H Q => t σ H fun vs H1 => sp (vs ++ dvs) H1 Q E
/-- o.m(..) of an instance of the class at C -/
def tMeth (C : Addr) (m : Str) (sp : Sp) (dvs : List V) (E : XK) (ta : TE) (t : TA) : TE := fun σ H Q => ta σ H fun x H1 => ∃ a dx fs, x = .ref a ∧ H1 a = some (.ins C dx fs) ∧ fs.lookup m = none ∧
  t σ H1 fun vs H2 => sp (x :: (vs ++ dvs)) H2 Q E
/-- C(..): a new instance and its dict, then __init__ -/
def tMake (C : Addr) (sp : Sp) (dvs : List V) (E : XK) (t : TA) : TE := fun σ H Q => t σ H fun vs H1 => ∀ x dx, H1 x = none → H1 dx = none → dx ≠ x →
  sp (.ref x :: (vs ++ dvs)) (upd (upd H1 dx (.own x)) x (.ins C dx [])) (fun v H2 => v = .non ∧ Q (.ref x) H2) E

/-- how the parameters are bound: us the positional arguments, kw the keywords' values by name, ds the defaults that fill up -/
def Binds (K : PySem.W.Frag) (fd : FuncData) (ps : List Str) (ds : List Value) : Prop :=
  ∀ (s : Shared) (us : List Value), K.In s.heap → (us ++ ds).length = ps.length → BindsTo s fd ⟨us, []⟩ (ps.zip (us ++ ds))
/-- every parameter is given -/
theorem Binds.all {K : PySem.W.Frag} {fd : FuncData} {ps : List Str} (h : ∀ us : List Value, us.length = ps.length → bindArgs fd ⟨us, []⟩ = pure (ps.zip us)) : Binds K fd ps [] := fun s us _ hl => by
  rw [List.append_nil] at hl ⊢
  exact .of_eq (h us hl)

/-- an exception of a callee reaches what this body wants of exceptions -/
def Passes (CX : CXT) (X : Cx) (E : XK) : Prop := ∀ (pins : List (Addr × Obj)) (σ : St) (H : Hp) (s : Shared) (e : Value) (s' : Shared), Inv X pins σ H s → CX X.stack H s E e s' → X.xe e s'

section
variable {X : Cx} {CX : CXT} {k : Nat} {f C : Addr} {fd : FuncData} {ps : List Str} {sp : Sp} {dvs : List V} {ds : List Value} {E : XK} {x m : Str} {p pos apos : Pos} {e o : Expr} {es : List Expr} {ta : TE} {t : TA}

/-- the callee runs -/
theorem run_fn {pins : List (Addr × Obj)} {σ : St} {H : Hp} {s : Shared} {Q : VK} {us : List Value} {vs : List V} (F : FnOk X.prog X.w X.K X.mg X.base CX k f fd ps sp) (hr : Room k X.A) (hb : Binds X.K fd ps ds) (hd : Vals dvs ds) (hx : Passes CX X E)
    (I : Inv X pins σ H s) (r : Vals vs us) (h : sp (vs ++ dvs) H Q E) : wpAny (model X.prog X.w) X.A (call (.ref f) us) (EP X pins σ Q) X.xe s := by
  have r2 : Vals (vs ++ dvs) (us ++ ds) := r.append hd
  have hl : (us ++ ds).length = ps.length := by rw [← r2.length]; exact F.len _ _ _ _ h
  refine wpAny_call (codeAny_mono (F.run X.A X.stack s H ⟨us, []⟩ (us ++ ds) (vs ++ dvs) Q E hr I.env0 (hb s us I.kIn hl) r2 h) fun r s' hq => ?_)
  cases r with
  | error e => exact hx pins σ H s e s' I hq
  | ok fl =>
    cases fl with
    | ret u => exact I.after hq
    | next => exact False.elim hq
    | brk => exact False.elim hq
    | cont => exact False.elim hq

theorem pe_call (F : FnOk X.prog X.w X.K X.mg X.base CX k f fd ps sp) (hr : Room k X.A) (hg : Gl X x) (hm : X.mg x = some (.ref f)) (hk : PySem.W.keepIn X.K (.ref f) = true) (hb : Binds X.K fd ps ds) (hd : Vals dvs ds) (hx : Passes CX X E)
    (ha : PA X (e :: es) t) (hdb : (x == ("__debug__" : Str)) = false := by decide) (he : starEach (e :: es) X.env = (false, eval e X.env) :: starEach es X.env := by rfl) (hpl : (backTo pos (starEach es X.env)).any (·.1) = false := by rfl) :
    PE X (.Call (.Name x p) (e :: es) [] pos) (tCall sp dvs E t) := by
  intro pins s σ H Q I h
  refine wpAny_Call_Name_kw (ld_glob I hg hm ?_ hdb)
  refine PySem.W.callWith_K (h₀ := X.base) I.ok.mod.kin hk (thn (ha pos pins s σ H _ I h) fun us s1 ⟨vs, H1, I1, r, q⟩ => ⟨I1.kIn, ?_⟩) he hpl
  exact run_fn F hr hb hd hx I1 r q

/-- o.m(e, ..) -/
theorem pe_meth {pl : Sem Bool} (he : PE X o ta) (c : Cls X.K C) (hm : Meth X.K C m f) (F : FnOk X.prog X.w X.K X.mg X.base CX k f fd ps sp) (hr : Room k X.A) (hb : Binds X.K fd ps ds) (hd : Vals dvs ds) (hx : Passes CX X E) (ha : PA X (e :: es) t)
    (hst : starEach (e :: es) X.env = (false, eval e X.env) :: starEach es X.env := by rfl) (hpl : (backTo pos (starEach es X.env)).any (·.1) = false := by rfl)
    (ht : eval (.Call (.Attribute o m apos) (e :: es) [] pos) X.env = (do
      let ov ← eval o X.env
      standAt apos.atName
      let (f, first) ← holding [ov] (getMethod ov m pl)
      callWith pos f first (backTo pos (starEach (e :: es) X.env)) (backToKw pos (keywordEach [] X.env))) := by rfl) :
    PE X (.Call (.Attribute o m apos) (e :: es) [] pos) (tMeth C m sp dvs E ta t) := by
  intro pins s σ H Q I h
  refine PySem.W.methodCall_KW (pl := pl) (thn (he pins s σ H _ I h) fun u s1 ⟨x, H1, I1, rx, a, dx, fs, ex, ea, l, q⟩ => ?_) ht
  subst ex
  obtain rfl : u = Value.ref a := rx
  refine getmeth_ok I1 ea c hm l ?_
  refine PySem.W.callWith_K (first := [.ref a]) (h₀ := X.base) I.ok.mod.kin hm.kp (thn (ha pos pins s1 σ H1 _ I1 q) fun us s2 ⟨vs, H2, I2, r, q2⟩ => ⟨I2.kIn, ?_⟩) hst hpl
  exact run_fn (us := .ref a :: us) (vs := .ref a :: vs) F hr hb hd hx I2 (.cons rfl r) q2
/-- o.m() -/
theorem pe_meth0 {pl : Sem Bool} (he : PE X o ta) (c : Cls X.K C) (hm : Meth X.K C m f) (F : FnOk X.prog X.w X.K X.mg X.base CX k f fd ps sp) (hr : Room k X.A) (hb : Binds X.K fd ps ds) (hd : Vals dvs ds) (hx : Passes CX X E)
    (ht : eval (.Call (.Attribute o m apos) [] [] pos) X.env = (do
      let ov ← eval o X.env
      standAt apos.atName
      let (f, first) ← holding [ov] (getMethod ov m pl)
      callWith pos f first (backTo pos (starEach [] X.env)) (backToKw pos (keywordEach [] X.env))) := by rfl) :
    PE X (.Call (.Attribute o m apos) [] [] pos) (tMeth C m sp dvs E ta tNil) := by
  intro pins s σ H Q I h
  refine PySem.W.methodCall_KW (pl := pl) (thn (he pins s σ H _ I h) fun u s1 ⟨x, H1, I1, rx, a, dx, fs, ex, ea, l, q⟩ => ?_) ht
  subst ex
  obtain rfl : u = Value.ref a := rx
  refine getmeth_ok I1 ea c hm l ?_
  exact PySem.W.callWith_K0 (first := [.ref a]) I1.kIn hm.kp (run_fn (us := [.ref a]) (vs := [.ref a]) F hr hb hd hx I1 (.cons rfl .nil) q)

/-- what a class must have to be made -/
structure Mk (K : PySem.W.Frag) (C f : Addr) : Prop where
  makes : PySem.W.makesIn K C = true
  init : PySem.W.findIn K (.ref C) "__init__" = some (some (.ref f))
  fn : PySem.W.isFn K (.ref f) = true
  kp : PySem.W.keepIn K (.ref C) = true

theorem run_make {pins : List (Addr × Obj)} {σ : St} {H : Hp} {s : Shared} {Q : VK} {us : List Value} {vs : List V} (M : Mk X.K C f) (F : FnOk X.prog X.w X.K X.mg X.base CX k f fd ps sp) (hr : Room (k + 1) X.A) (hb : Binds X.K fd ps ds) (hd : Vals dvs ds)
    (hx : Passes CX X E) (I : Inv X pins σ H s) (r : Vals vs us)
    (h : ∀ x dx, H x = none → H dx = none → dx ≠ x → sp (.ref x :: (vs ++ dvs)) (upd (upd H dx (.own x)) x (.ins C dx [])) (fun v H2 => v = .non ∧ Q (.ref x) H2) E) :
    wpAny (model X.prog X.w) X.A (call (.ref C) us) (EP X pins σ Q) X.xe s := by
  have hq := h (s.heap.objs.size + 1) s.heap.objs.size (I.hok.fresh (Nat.le_succ _)) (I.hok.fresh (Nat.le_refl _)) (Nat.ne_of_lt (Nat.lt_succ_self _))
  have I2 := Inv.made (C := C) I
  have r2 : Vals (V.ref (s.heap.objs.size + 1) :: (vs ++ dvs)) (Value.ref (s.heap.objs.size + 1) :: (us ++ ds)) := .cons rfl (r.append hd)
  have hl : (Value.ref (s.heap.objs.size + 1) :: us ++ ds).length = ps.length := by
    have e := r2.length
    rw [F.len _ _ _ _ hq] at e
    exact e.symm
  refine wpAny_call (make_map (f := f) I.kIn M.makes M.init (beq_iff_eq.mp M.fn) (codeAny_mono (F.run _ X.stack _ _ ⟨Value.ref (s.heap.objs.size + 1) :: us, []⟩ (Value.ref (s.heap.objs.size + 1) :: (us ++ ds)) _ _ E (hr.make C us [])
    (I2.env0.make C us []) (hb _ (Value.ref (s.heap.objs.size + 1) :: us) I2.kIn hl) r2 hq) fun r s' hq' => ?_))
  cases r with
  | error e => exact hx pins σ _ _ e s' I2 hq'
  | ok fl =>
    cases fl with
    | ret u =>
      obtain ⟨v, H', I3, rv, ev, q3⟩ := I2.after hq'
      subst ev
      exact ⟨rv, ⟨V.ref (s.heap.objs.size + 1), H', I3, rfl, q3⟩⟩
    | next => exact False.elim hq'
    | brk => exact False.elim hq'
    | cont => exact False.elim hq'
theorem pe_make (M : Mk X.K C f) (F : FnOk X.prog X.w X.K X.mg X.base CX k f fd ps sp) (hr : Room (k + 1) X.A) (hg : Gl X x) (hm : X.mg x = some (.ref C)) (hb : Binds X.K fd ps ds) (hd : Vals dvs ds) (hx : Passes CX X E)
    (ha : PA X (e :: es) t) (hdb : (x == ("__debug__" : Str)) = false := by decide) (he : starEach (e :: es) X.env = (false, eval e X.env) :: starEach es X.env := by rfl) (hpl : (backTo pos (starEach es X.env)).any (·.1) = false := by rfl) :
    PE X (.Call (.Name x p) (e :: es) [] pos) (tMake C sp dvs E t) := by
  intro pins s σ H Q I h
  refine wpAny_Call_Name_kw (ld_glob I hg hm ?_ hdb)
  refine PySem.W.callWith_K (h₀ := X.base) I.ok.mod.kin M.kp (thn (ha pos pins s σ H _ I h) fun us s1 ⟨vs, H1, I1, r, q⟩ => ⟨I1.kIn, ?_⟩) he hpl
  exact run_make M F hr hb hd hx I1 r q
end

/-! ### keywords -/
section
variable {X : Cx} {CX : CXT} {k : Nat} {f C : Addr} {fd : FuncData} {ps ks : List Str} {sp : Sp} {E : XK} {x m : Str} {p pos apos kpos : Pos} {e o : Expr} {es : List Expr} {kws : List Keyword} {te ta : TE} {t tk : TA} {nm : Option Str}

/-- how a call with keywords binds: g puts the positional values us and the keywords' values ws (names ks) in the parameters' order, defaults among them -/
structure KBinds (K : PySem.W.Frag) (fd : FuncData) (ps ks : List Str) (g : List Value → List Value → List Value) (gV : List V → List V → List V) : Prop where
  to : ∀ (s : Shared) (us ws : List Value), K.In s.heap → (g us ws).length = ps.length → BindsTo s fd ⟨us, ks.zip ws⟩ (ps.zip (g us ws))
  rel : ∀ {vs : List V} {us : List Value} {zs : List V} {ws : List Value}, Vals vs us → Vals zs ws → Vals (gV vs zs) (g us ws)
variable {g : List Value → List Value → List Value} {gV : List V → List V → List V}
end

/-! ### a def's body keeps its promise -/
/-- names: the parameters first -/
structure FnScope (N P : List Str) (sc : Scope) : Prop where
  kind : sc.kind = .function
  co : sc.isCoroutine = false
  gen : sc.isGenerator = false
  nd : N.Nodup
  pre : N.take P.length = P
  par : ∀ x ∈ P, sc.names.lookup x = some .local ∨ sc.names.lookup x = some .cell
  nofree : ∀ y ∈ sc.names, y.2 ≠ .free

theorem bindL_out {kindOf : Str → Option NameKind} {x : Str} : ∀ {binds : List (Str × Value)} {m : Str → Option Value}, (∀ v, (x, v) ∉ binds) → bindL kindOf binds m x = m x
  | [], _, _ => rfl
  | (n, v) :: r, m, h => by
    unfold bindL
    rw [bindL_out fun w hw => h w (List.mem_cons_of_mem _ hw)]
    split
    · have : x ≠ n := by rintro rfl; exact h v List.mem_cons_self
      simp [this]
    · rfl
theorem bindC_out {kindOf : Str → Option NameKind} {x : Str} : ∀ {binds : List (Str × Value)} {m : Str → Option Value}, (∀ v, (x, v) ∉ binds) → bindC kindOf binds m x = m x
  | [], _, _ => rfl
  | (n, v) :: r, m, h => by
    unfold bindC
    rw [bindC_out fun w hw => h w (List.mem_cons_of_mem _ hw)]
    split
    · rfl
    · have : x ≠ n := by rintro rfl; exact h v List.mem_cons_self
      simp [this]
theorem bindL_get {kindOf : Str → Option NameKind} {x : Str} {v : Value} : ∀ {P : List Str} {vs : List Value} {i : Nat} {m : Str → Option Value}, P.Nodup → P[i]? = some x → vs[i]? = some v → kindOf x = some .local →
    bindL kindOf (P.zip vs) m x = some v
  | [], _, _, _, _, h, _, _ => by simp at h
  | _ :: _, [], _, _, _, _, h, _ => by simp at h
  | p :: P, w :: vs, 0, m, nd, h1, h2, hk => by
    simp at h1 h2; subst h1; subst h2
    show bindL kindOf ((p, w) :: P.zip vs) m p = _
    unfold bindL
    rw [bindL_out fun v hv => (List.nodup_cons.mp nd).1 (List.of_mem_zip hv).1, if_pos hk]
    simp
  | p :: P, w :: vs, i + 1, m, nd, h1, h2, hk => by
    show bindL kindOf ((p, w) :: P.zip vs) m x = _
    unfold bindL
    exact bindL_get (i := i) (List.nodup_cons.mp nd).2 (by simpa using h1) (by simpa using h2) hk
theorem bindC_get {kindOf : Str → Option NameKind} {x : Str} {v : Value} : ∀ {P : List Str} {vs : List Value} {i : Nat} {m : Str → Option Value}, P.Nodup → P[i]? = some x → vs[i]? = some v → kindOf x ≠ some .local →
    bindC kindOf (P.zip vs) m x = some v
  | [], _, _, _, _, h, _, _ => by simp at h
  | _ :: _, [], _, _, _, _, h, _ => by simp at h
  | p :: P, w :: vs, 0, m, nd, h1, h2, hk => by
    simp at h1 h2; subst h1; subst h2
    show bindC kindOf ((p, w) :: P.zip vs) m p = _
    unfold bindC
    rw [bindC_out fun v hv => (List.nodup_cons.mp nd).1 (List.of_mem_zip hv).1, if_neg hk]
    simp
  | p :: P, w :: vs, i + 1, m, nd, h1, h2, hk => by
    show bindC kindOf ((p, w) :: P.zip vs) m x = _
    unfold bindC
    exact bindC_get (i := i) (List.nodup_cons.mp nd).2 (by simpa using h1) (by simpa using h2) hk

/-- the names' values at the entry -/
def start (N : List Str) (vs : List V) : St := vs.map some ++ List.replicate (N.length - vs.length) none

/-- the context of a def's body, at its entry; an exception leaves the frame, then lies as CX says -/
def cxOf (CX : CXT) (P : Program) (w : World) (K : PySem.W.Frag) (mg : Str → Option Value) (base : Heap) (N : List Str) (qual : Str) (scope : Scope) (f : Addr) (cd : Value) (A : Around) (outer : List Env) (s : Shared) (H : Hp) (E : XK) : Cx where
  prog := P
  w := w
  K := K
  mg := mg
  base := base
  A := A.deeper (envOfC qual scope s.heap.objs.size f cd)
  N := N
  s₀ := s
  H₀ := H
  env := envOfC qual scope s.heap.objs.size f cd
  outer := outer
  stack := envOfC qual scope s.heap.objs.size f cd :: outer
  ex := []
  calm := true
  fn := fun _ => true
  pn := []
  xe := fun e s' => wpAny (model P w) (A.deeper (envOfC qual scope s.heap.objs.size f cd)) (leaving (envOfC qual scope s.heap.objs.size f cd) e) (fun _ s'' => CX outer H s E e s'') (fun e' s'' => CX outer H s E e' s'') s'

theorem cell_has {sc : Scope} {n : Nat} {x : Str} (h : sc.names.lookup x = some .cell) : ∃ c, (cellsFrom n sc.names []).lookup x = some c := by
  have q := PySem.W.cellsFrom_some sc.names n [] (.inl h)
  exact Option.isSome_iff_exists.mp q

theorem inv_start {CX : CXT} {P : Program} {w : World} {K : PySem.W.Frag} {mg : Str → Option Value} {base : Heap} {N ps : List Str} {qual : Str} {scope : Scope} {f : Addr} {cd : Value} {A : Around} {outer : List Env} {s s1 : Shared} {H : Hp} {E : XK} {us : List Value} {vs : List V}
    (S : FnScope N ps scope) (hd : A.handled = none) (e0 : Env0 P w K mg base A outer s H) (hl : vs.length = ps.length) (r : Vals vs us)
    (x : InCallC s s.heap.objs.size (bindL (envOfC qual scope s.heap.objs.size f cd).kindOf (ps.zip us) fun _ => none) (cellsFrom (s.heap.objs.size + 1) scope.names []) (bindC (envOfC qual scope s.heap.objs.size f cd).kindOf (ps.zip us) fun _ => none) s1) :
    Inv (cxOf CX P w K mg base N qual scope f cd A outer s H E) [] (start N vs) H s1 := by
  have hpl : ps.length ≤ N.length := by have := congrArg List.length S.pre; rw [List.length_take] at this; omega
  obtain ⟨h1, tk, rfl, hk⟩ := x.done
  have noA : ∀ b : Addr, b ∉ (cxOf CX P w K mg base N qual scope f cd A outer s H E).ex := fun b z => absurd (show b ∈ ([] : List Addr) from z) (by simp)
  refine ⟨⟨e0.mod, S.kind, rfl, rfl, Nat.le_refl _, fun y z c h1 h2 => ?_, fun y hy => ?_, fun y c _ h => ?_, fun _ => hd, Around.frames_deeper e0.frames, .inr ⟨rfl, rfl⟩, fun b z => absurd z (noA b), e0.bs, e0.bsz, fun b _ _ => noA b, fun b z => absurd z (noA b), e0.funs, e0.frf⟩,
    rfl, e0.bare, Un.kept hk, ⟨_, x.toInCall.ns, fun i y v h1 h2 h3 => ?_⟩, fun y c h => ⟨_, x.cell y c h⟩, e0.hok.fresh (Nat.le_refl _), fun y c h => ?_, fun p hp => absurd (show p ∈ ([] : List (Addr × Obj)) from hp) (by simp), e0.hok.kept hk, ?_⟩
  · exact name_of_addr x.apart (PySem.mem_of_lookup h1) (PySem.mem_of_lookup h2)
  · have hy : scope.names.lookup y = some .cell ∨ scope.names.lookup y = some .free := hy
    rcases hy with hy | hy
    · exact cell_has hy
    · exact absurd rfl (S.nofree _ (PySem.mem_of_lookup hy))
  · exact Nat.le_of_lt (x.above y c (PySem.mem_of_lookup h))
  · have hi : i < vs.length := by
      unfold start at h2
      by_cases hi : i < vs.length
      · exact hi
      · rw [List.getElem?_append_right (by simpa using hi)] at h2
        rw [List.getElem?_replicate] at h2
        split at h2 <;> cases h2
    have ha : vs[i]? = some v := by
      unfold start at h2
      rw [List.getElem?_append_left (by simpa using hi), List.getElem?_map] at h2
      cases e : vs[i]? with
      | none => rw [e] at h2; cases h2
      | some a => rw [e] at h2; cases h2; rfl
    obtain ⟨u, hu, rv⟩ := r.get ha
    have hp : ps[i]? = some y := by
      rw [← S.pre, List.getElem?_take_of_lt (by omega)]; exact h1
    have ndP : ps.Nodup := by rw [← S.pre]; exact S.nd.sublist (List.take_sublist _ _)
    refine ⟨u, rv, ?_⟩
    rcases S.par y (List.mem_of_getElem? hp) with k | k
    · exact .inl ⟨k, bindL_get ndP hp hu k⟩
    · obtain ⟨c, e⟩ := cell_has (n := s.heap.objs.size + 1) k
      refine .inr ⟨.inl k, c, e, ?_⟩
      have q := x.cell y c e
      rw [bindC_get ndP hp hu (by show scope.names.lookup y ≠ _; rw [k]; decide)] at q
      exact q
  · exact e0.hok.fresh (Nat.le_of_lt (x.above y c (PySem.mem_of_lookup h)))
  · unfold start
    show _ = N.length
    rw [List.length_append, List.length_map, List.length_replicate]
    omega

/-- THE RULE: a def (or a method) of the text, by its body. The body's reading t is chosen for each entry; it is run at the parameters' values -/
theorem fn_of {CX : CXT} {P : Program} {w : World} {K : PySem.W.Frag} {mg : Str → Option Value} {base : Heap} {k : Nat} {f : Addr} {name qual : Str} {params : Arguments} {body : List Stmt} {scope : Scope} {dV kV doc pm cdv ct oc : Value} {an od : Option Addr}
    {osl : Array (Option Value)} {N ps : List Str} {sp : Sp} (lk : K.lookup f = some ⟨oc, od, .func (PySem.W.fnOf name qual params body scope dV kV doc pm an cdv ct), osl⟩) (hcd : PySem.W.codeIn K cdv qual = true) (S : FnScope N ps scope)
    (len : ∀ vs H Q E, sp vs H Q E → vs.length = ps.length)
    (hbody : ∀ (A : Around) (outer : List Env) (s : Shared) (H : Hp) (vs : List V) (Q : VK) (E : XK), Room k (A.deeper (envOfC qual scope s.heap.objs.size f cdv)) → sp vs H Q E →
      ∃ t, PSs (cxOf CX P w K mg base N qual scope f cdv A outer s H E) body t ∧ t { nx := fun _ H' => Q .non H', rt := Q } (start N vs) H) :
    FnOk P w K mg base CX (k + 1) f (PySem.W.fnOf name qual params body scope dV kV doc pm an cdv ct) ps sp := by
  refine ⟨len, fun A outer s H args us vs Q E hr e0 hb r hsp => ?_⟩
  have hl := len _ _ _ _ hsp
  have KX : K.In s.heap := e0.mod.kin.keeps fun b o e => (e0.bs b o e).1
  have lim : s.heap.NoLimit := e0.mod.nolimit.keeps fun b o e => (e0.bs b o e).1
  have hkind : ∀ y ∈ ps.zip us, scope.names.lookup y.1 = some .local ∨ (scope.names.lookup y.1 = some .cell ∧ ((cellsFrom (s.heap.objs.size + 1) scope.names []).lookup y.1).isSome = true) := fun ⟨n, v⟩ hy => by
    rcases S.par n (List.of_mem_zip hy).1 with q | q
    · exact .inl q
    · exact .inr ⟨q, PySem.W.cellsFrom_some _ _ _ (.inl q)⟩
  refine codeAny_call_function hr.depth (KX _ _ lk) rfl S.co S.gen rfl (PySem.W.codeRec_of KX hcd) (hb _ _ _ _ ?_)
  refine wpAny_newFunctionEnv_cells S.kind hkind fun env he s1 x => ?_
  subst he
  refine ⟨lim.keeps x.toInCall.keep, codeAny_func ?_⟩
  obtain ⟨t, ht, hq⟩ := hbody A outer s H vs Q E (hr.deeper _) hsp
  have I : Inv (cxOf CX P w K mg base N qual scope f cdv A outer s H E) [] (start N vs) H s1 := inv_start S hr.hd e0 hl r x
  refine wpAny_mono (ht [] s1 (start N vs) H _ I hq) (fun fl s' hs => ?_) fun e s' hs => hs
  have fin : ∀ {σ' : St} {H' : Hp} {v : V} {u : Value}, Inv (cxOf CX P w K mg base N qual scope f cdv A outer s H E) [] σ' H' s' → RelV v u → Q v H' → CE outer P w H s Q u s' :=
    fun {σ' H' v u} J rv q => ⟨v, H', J.os, J.bare, J.base, J.hok, rv, q⟩
  cases fl with
  | ret u =>
    obtain ⟨v, σ', H', J, rv, q⟩ := hs
    exact fin J rv q
  | next =>
    obtain ⟨σ', H', J, q⟩ := hs
    exact fin (v := V.non) (u := Value.none) J rfl q
  | brk =>
    obtain ⟨_, _, _, q⟩ := hs
    exact False.elim q
  | cont =>
    obtain ⟨_, _, _, q⟩ := hs
    exact False.elim q
end L2

namespace L2
open PySem PySem.Spec PyProof.Rows
section
variable {X : Cx} {x : Str} {p pos : Pos} {e : Expr} {es : List Expr} {t : TA} {id T : String} {r : List V → Hp → VK → Prop}

def tCB (r : List V → Hp → VK → Prop) (t : TA) : TE := fun σ H Q => t σ H fun vs H1 => r vs H1 Q
/-- f(e, ..), f a built-in function -/
theorem pe_callB (hc : CallR X (.builtin id) r) (hg : Gl X x) (hm : X.mg x = none) (hv : bootBuiltins x = some (.builtin id)) (ha : PA X (e :: es) t) (hn : x ≠ "__name__" := by decide) (hdb : (x == ("__debug__" : Str)) = false := by decide)
    (he : starEach (e :: es) X.env = (false, eval e X.env) :: starEach es X.env := by rfl) (hpl : (backTo pos (starEach es X.env)).any (·.1) = false := by rfl) : PE X (.Call (.Name x p) (e :: es) [] pos) (tCB r t) := by
  intro pins s σ H Q I h
  refine wpAny_Call_Name_kw (ld_blt I hg hm hv ?_ hn hdb)
  exact PyProof.Rows.callWith_builtin1 (thn (ha pos pins s σ H _ I h) fun us s1 ⟨vs, H1, I1, r1, q1⟩ => hc pins s1 σ H1 vs us Q I1 r1 q1) he hpl
/-- T(e, ..), T a built-in type -/
theorem pe_callTy (hc : CallR X (.type T) r) (hg : Gl X x) (hm : X.mg x = none) (hv : bootBuiltins x = some (.type T)) (ha : PA X (e :: es) t) (hn : x ≠ "__name__" := by decide) (hdb : (x == ("__debug__" : Str)) = false := by decide)
    (he : starEach (e :: es) X.env = (false, eval e X.env) :: starEach es X.env := by rfl) (hpl : (backTo pos (starEach es X.env)).any (·.1) = false := by rfl) : PE X (.Call (.Name x p) (e :: es) [] pos) (tCB r t) := by
  intro pins s σ H Q I h
  refine wpAny_Call_Name_kw (ld_blt I hg hm hv ?_ hn hdb)
  exact PyProof.Rows.callWith_type1 (thn (ha pos pins s σ H _ I h) fun us s1 ⟨vs, H1, I1, r1, q1⟩ => hc pins s1 σ H1 vs us Q I1 r1 q1) he hpl
end
end L2

namespace HT
open PySem PyProof.Rows



section
open PySem.SeqAt
open PySem.AutoSeq1 (wpAny_loadPart')
open PySem.MeetsSeq PySem.MeetsSeq2 PySem.MeetsSeq3

end

section
variable {prog : Program} {w : World} {A : Around} {E : Value → Shared → Prop} {s : Shared}


/-- t + u, t not empty -/
theorem cat_tup {t b : Addr} {vs ws : List Value} {Q : Value → Shared → Prop} (ht : IsTup s.heap t vs.toArray) (hb : IsTup s.heap b ws.toArray) (hv : vs ≠ [])
    (h1 : ws = [] → Q (.ref t) s) (h2 : ws ≠ [] → Q (.ref s.heap.objs.size) { s with heap := s.heap.push { cls := .type "tuple", data := .seq (vs ++ ws).toArray } })
    (hsz : vs.length + ws.length ≤ sizeLine) : wpAny (model prog w) A (binaryOp .Add (.ref t) (.ref b)) Q E s := by
  obtain ⟨⟨cls, dd, data, sl⟩, ho, hc, n, hd⟩ := id ht
  obtain ⟨⟨cls2, dd2, data2, sl2⟩, ho2, hc2, n2, hd2⟩ := id hb
  simp only at hc hd hc2 hd2
  subst hc hd hc2 hd2
  have e : vs.toArray ++ ws.toArray = (vs ++ ws).toArray := by simp
  by_cases hw : ws = []
  · exact concat_meets ⟨_, ho, rfl⟩ ⟨_, ho2, rfl⟩ noFill_tuple_add seq_tuple_add PySem.F.slot_tuple_add PySem.F.entry_tuple_add (PySem.F.args_tuple_add_2 _ _)
      (tuple_addW1 t b vs.toArray ws.toArray n n2 dd dd2 sl sl2 (by simpa using hv) (by simp [hw])) ⟨ho, ho2, h1 hw⟩
  · refine concat_meets ⟨_, ho, rfl⟩ ⟨_, ho2, rfl⟩ noFill_tuple_add seq_tuple_add PySem.F.slot_tuple_add PySem.F.entry_tuple_add (PySem.F.args_tuple_add_2 _ _)
      (tuple_addW2 t b vs.toArray ws.toArray n n2 dd dd2 sl sl2 (by simpa using hv) (by simpa using hw) (by rw [List.size_toArray, List.size_toArray]; exact hsz)) ⟨ho, ho2, ?_⟩
    rw [e]
    exact h2 hw

/-! ### t[a:b], not the whole -/
/-- a slice's bound as a place among n (d where it is left out) -/
def sIx (n d : Nat) : Option Int → Nat
  | none => d
  | some v => if v < 0 then (v + (n : Int)).toNat else min v.toNat n
theorem sIx_le (n d : Nat) (hd : d ≤ n) (o : Option Int) : sIx n d o ≤ n := by
  cases o with
  | none => exact hd
  | some v =>
    show (if v < 0 then (v + (n : Int)).toNat else min v.toNat n) ≤ n
    by_cases hv : v < 0
    · rw [if_pos hv]; omega
    · rw [if_neg hv]; exact Nat.min_le_right _ _
theorem clip_eq (v : Int) (n d : Nat) : (if v < 0 then max (v + (n : Int)) 0 else min v (n : Int)) = ((sIx n d (some v) : Nat) : Int) := by
  show (if v < 0 then max (v + (n : Int)) 0 else min v (n : Int)) = (((if v < 0 then (v + (n : Int)).toNat else min v.toNat n) : Nat) : Int)
  by_cases hv : v < 0
  · simp only [if_pos hv]; omega
  · simp only [if_neg hv]; omega
theorem adjust_gen (lo hi : Option Int) (n : Nat) : Builtin.Slice.sliceAdjust lo hi 1 (n : Int) = (((sIx n 0 lo : Nat) : Int), ((sIx n n hi : Nat) : Int)) := by
  have h1 : ¬ ((1 : Int) < 0) := by omega
  unfold Builtin.Slice.sliceAdjust
  simp only [h1, if_false]
  refine Prod.ext ?_ ?_
  · cases lo with
    | none => rfl
    | some v => exact clip_eq v n 0
  · cases hi with
    | none => rfl
    | some v => exact clip_eq v n n
theorem places_gen (i j : Nat) : Builtin.Slice.slicePlaces (i : Int) (j : Int) 1 = j - i := by
  unfold Builtin.Slice.slicePlaces
  have h1 : (1 : Int) > 0 := by omega
  simp only [h1, if_true, Int.ediv_one]
  split <;> omega
theorem slicePart_ {v : Value} {o : Option Int} {Q : Option Int → Shared → Prop} (p : IsPart v o) (h : Q o s) : wpAny (model prog w) A (Builtin.Slice.slicePartIndex v) Q E s := by
  cases p with
  | none => exact slicePart_none h
  | int i t => exact slicePart_int h
theorem sliceApplied_gen {sl : Addr} {vl vu : Value} {lo hi : Option Int} {n : Nat} {Q : Int × Int × Nat → Shared → Prop} (hs : s.heap.IsSliceOf sl vl vu .none) (pl : IsPart vl lo) (pu : IsPart vu hi)
    (h : Q (((sIx n 0 lo : Nat) : Int), 1, sIx n n hi - sIx n 0 lo) s) : wpAny (model prog w) A (Builtin.Slice.sliceApplied (.ref sl) (pure (n : Int))) Q E s := by
  obtain ⟨os, hos, hcs, hds⟩ := id hs
  unfold Builtin.Slice.sliceApplied Builtin.Slice.sliceFields
  refine wpAny_bind (wpAny_bind (wpAny_field hos hds (x := vl) rfl (wpAny_bind (wpAny_field hos hds (x := vu) rfl (wpAny_bind (wpAny_field hos hds (x := .none) rfl (wpAny_pure ?_)))))))
  refine wpAny_bind (slicePart_none ?_)
  show wpAny _ _ (if ((1 : Int) == 0) = true then _ else _) _ _ s
  rw [if_neg (by decide)]
  refine wpAny_bind (slicePart_ pl (wpAny_bind (slicePart_ pu (wpAny_bind (wpAny_pure ?_)))))
  show wpAny _ _ (match Builtin.Slice.sliceAdjust lo hi 1 (n : Int) with | (lo, hi) => pure (lo, (1 : Int), Builtin.Slice.slicePlaces lo hi 1)) _ _ s
  rw [adjust_gen lo hi n]
  show wpAny _ _ (pure (((sIx n 0 lo : Nat) : Int), (1 : Int), Builtin.Slice.slicePlaces ((sIx n 0 lo : Nat) : Int) ((sIx n n hi : Nat) : Int) 1)) _ _ s
  rw [places_gen]
  exact wpAny_pure h
theorem pick_gen (xs : Array Value) (i k : Nat) : ((List.range k).filterMap fun (m : Nat) => xs[((i : Int) + (m : Int) * 1).toNat]?).toArray = ((xs.toList.drop i).take k).toArray := by
  have e : (fun (m : Nat) => xs[((i : Int) + (m : Int) * 1).toNat]?) = fun m => xs[i + m]? := by
    funext m
    have : ((i : Int) + (m : Int) * 1).toNat = i + m := by omega
    rw [this]
  rw [e]
  have := pick_run xs i k
  rw [List.filterMap_map] at this
  have e2 : ((fun x => xs[x]?) ∘ fun x => i + x) = fun m => xs[i + m]? := rfl
  rw [e2] at this
  rw [this]

theorem getItem_tuple_cut {t sl : Addr} {items : Array Value} {vl vu : Value} {lo hi : Option Int} {Q : Value → Shared → Prop} (ht : IsTup s.heap t items) (hs : s.heap.IsSliceOf sl vl vu .none) (pl : IsPart vl lo) (pu : IsPart vu hi)
    (hw : ¬ (sIx items.size 0 lo = 0 ∧ sIx items.size items.size hi = items.size))
    (h : Q (.ref s.heap.objs.size) { s with heap := s.heap.push { cls := .type "tuple", data := .seq ((items.toList.drop (sIx items.size 0 lo)).take (sIx items.size items.size hi - sIx items.size 0 lo)).toArray } })
    (hsz : items.size ≤ sizeLine) : wpAny (model prog w) A (getItem (.ref t) (.ref sl)) Q E s := by
  have htake : sizeOk (.seq ((items.toList.drop (sIx items.size 0 lo)).take (sIx items.size items.size hi - sIx items.size 0 lo)).toArray) := by
    show ((items.toList.drop (sIx items.size 0 lo)).take (sIx items.size items.size hi - sIx items.size 0 lo)).toArray.size ≤ sizeLine
    rw [List.size_toArray, List.length_take, List.length_drop, Array.length_toList]
    omega
  have hj : sIx items.size items.size hi ≤ items.size := sIx_le _ _ (Nat.le_refl _) hi
  obtain ⟨os, hos, hcs, hds⟩ := id hs
  have hTs : s.TypeIs (.ref sl) "slice" := ⟨os, hos, hcs⟩
  unfold getItem
  try with_reducible refine wpAny_holding ?_
  first | refine wpAny_bind (wpAny_pure ?_) | skip
  refine wpAny_bind (wpAny_sequenceKey ht.typeIs (by decide) ?_)
  refine wpAny_bind (wpAny_callSpecial?_slot (name := Str.ofString "__getitem__") ht.typeIs PyProof.Rows.slot_tuple_getitem
    (wpAny_call_entry PyProof.Rows.slot_tuple_getitem ht.typeIs entry_tuple_getitem ?_ (args_tuple_getitem _ _)))
  show wpAny _ _ (Builtin.Tuple.tupleItemsOf (.ref t) >>= _) _ _ s
  refine wpAny_bind (tupleItemsOf_ ht ?_)
  refine wpAny_bind (wpAny_typeOf hTs ?_)
  rw [if_pos (by decide)]
  refine wpAny_bind (sliceApplied_gen hs pl pu ?_)
  have hno : ¬ ((((sIx items.size 0 lo : Nat) : Int) == 0 && (1 : Int) == 1 && (sIx items.size items.size hi - sIx items.size 0 lo) == items.size) = true) := by
    intro q
    rw [Bool.and_eq_true, Bool.and_eq_true] at q
    have q1 : ((sIx items.size 0 lo : Nat) : Int) = 0 := eq_of_beq q.1.1
    have q2 : sIx items.size items.size hi - sIx items.size 0 lo = items.size := eq_of_beq q.2
    exact hw ⟨by omega, by omega⟩
  show wpAny _ _ (if (((sIx items.size 0 lo : Nat) : Int) == 0 && (1 : Int) == 1 && (sIx items.size items.size hi - sIx items.size 0 lo) == items.size) = true then _ else _) _ _ s
  rw [if_neg hno, pick_gen]
  first
    | exact wpAny_bind (m := Builtin.Tuple.tupleExact _) (wpAny_newObj_type (wpAny_pure ⟨_, rfl, wpAny_pure h⟩) htake)
    | exact wpAny_bind (m := Builtin.Tuple.tupleExact _) (wpAny_newObj_type (wpAny_bind (wpAny_pure (wpAny_pure ⟨_, rfl, wpAny_pure h⟩))) htake)
    | exact wpAny_bind (wpAny_bind (m := Builtin.Tuple.tupleExact _) (wpAny_newObj_type (wpAny_pure (wpAny_pure ⟨_, rfl, wpAny_pure h⟩)) htake))
    | exact wpAny_bind (wpAny_bind (m := Builtin.Tuple.tupleExact _) (wpAny_newObj_type (wpAny_pure ⟨_, rfl, wpAny_pure h⟩) htake))
end
end HT

namespace L2
open PySem PySem.Spec PyProof.Rows

/-! ### the parts of a slice -/
abbrev TO := St → Hp → (Option Int → Hp → Prop) → Prop
/-- a slice's part (left out, or an int) -/
def PO (X : Cx) (e : Option Expr) (t : TO) : Prop :=
  ∀ (pins : List (Addr × Obj)) (s : Shared) (σ : St) (H : Hp) (Q : Option Int → Hp → Prop), Inv X pins σ H s → t σ H Q →
    wpAny (model X.prog X.w) X.A (evalPart e X.env) (fun u s' => ∃ o H', Inv X pins σ H' s' ∧ IsPart u o ∧ Q o H') X.xe s
def tNoPart : TO := fun _ H Q => Q none H
def tPart (t : TE) : TO := fun σ H Q => t σ H fun x H1 => ∃ i, x = .int i ∧ Q (some i) H1


section
variable {X : Cx} {e : Expr} {te : TE} {lo hi : Option Expr} {tl th : TO} {pos p2 : Pos}

theorem po_none : PO X none tNoPart := by
  intro pins s σ H Q I h
  rw [evalPart_none]
  exact wpAny_pure ⟨none, H, I, .none, h⟩
theorem po_some (h : PE X e te) : PO X (some e) (tPart te) := by
  intro pins s σ H Q I hw
  rw [evalPart_some]
  refine thn (h pins s σ H _ I hw) fun u s1 ⟨x, H1, I1, r1, q1⟩ => ?_
  obtain ⟨i, rfl, q⟩ := q1
  obtain ⟨t, rfl⟩ := r1
  exact ⟨some i, H1, I1, .int i t, q⟩

/-- what a slice of a value is, by values: the slice object stands at sl -/
def SlR (X : Cx) (r : V → Option Int → Option Int → Hp → VK → Prop) : Prop :=
  ∀ (pins : List (Addr × Obj)) (s : Shared) (σ : St) (H : Hp) (x : V) (v vl vu : Value) (lo hi : Option Int) (sl : Addr) (Q : VK), Inv X pins σ H s → RelV x v → s.heap.IsSliceOf sl vl vu .none → IsPart vl lo → IsPart vu hi → r x lo hi H Q →
    ∃ T id, typeLookup (.type T) "__getitem__" = pure (some (.builtin id)) ∧ s.TypeIs v T ∧ wpAny (model X.prog X.w) X.A (getItem v (.ref sl)) (EP X pins σ Q) X.xe s
def tSl (r : V → Option Int → Option Int → Hp → VK → Prop) (te : TE) (tl th : TO) : TE := fun σ H Q => te σ H fun x H1 => tl σ H1 fun l H2 => th σ H2 fun u H3 => r x l u H3 Q
/-- a[lo:hi], any a -/
theorem pe_slice {r : V → Option Int → Option Int → Hp → VK → Prop} (hr : SlR X r) (he : PE X e te) (hl : PO X lo tl) (hu : PO X hi th) : PE X (.Subscript e (.Slice lo hi none p2) pos) (tSl r te tl th) := by
  intro pins s σ H Q I h
  refine Subscript_ (thn (he pins s σ H _ I h) fun v s1 ⟨x, H1, I1, r1, q1⟩ => ?_)
  refine wpAny_Slice (thn (hl pins s1 σ H1 _ I1 q1) fun vl s2 ⟨l, H2, I2, pl, q2⟩ => thn (hu pins s2 σ H2 _ I2 q2) fun vu s3 ⟨u, H3, I3, pu, q3⟩ => ?_)
  rw [evalPart_none]
  refine wpAny_pure ?_
  have I4 : Inv X pins σ H3 { s3 with heap := s3.heap.push { cls := .type "slice", data := .fields #[vl, vu, .none] } } := I3.kept (t' := s3.toks) fun b ob q => Heap.get?_push_of_some _ q
  obtain ⟨T, id, hT, ht, hg⟩ := hr pins { s3 with heap := s3.heap.push { cls := .type "slice", data := .fields #[vl, vu, .none] } } σ H3 x v vl vu l u s3.heap.objs.size Q I4 r1 (Heap.IsSliceOf.new ..) pl pu q3
  show wpAny (model X.prog X.w) X.A (subscriptTail e (.Slice lo hi none p2) v (.ref s3.heap.objs.size)) (EP X pins σ Q) X.xe { s3 with heap := s3.heap.push { cls := .type "slice", data := .fields #[vl, vu, .none] } }
  exact tail_any (ops := [.ref s3.heap.objs.size, v]) ht hT hg (by with_unfolding_all rfl)

/-- the items of xs[lo:hi] -/
def cutV (xs : List V) (lo hi : Option Int) : List V := (xs.drop (HT.sIx xs.length 0 lo)).take (HT.sIx xs.length xs.length hi - HT.sIx xs.length 0 lo)
theorem cutV_length (xs : List V) (lo hi : Option Int) : (cutV xs lo hi).length ≤ xs.length := by
  unfold cutV
  rw [List.length_take, List.length_drop]
  omega
/-- t[lo:hi], not the whole of it (the whole would be t itself) -/
def rSlT (K : PySem.W.Frag) : V → Option Int → Option Int → Hp → VK → Prop := fun x lo hi H Q => ∃ a xs, x = .ref a ∧ SqT K H a xs ∧
  ¬ (HT.sIx xs.length 0 lo = 0 ∧ HT.sIx xs.length xs.length hi = xs.length) ∧ ∀ p, H p = none → Q (.ref p) (upd H p (.tup (cutV xs lo hi)))
theorem sl_tup : SlR X (rSlT X.K) := by
  intro pins s σ H x v vl vu lo hi sl Q I rx hs pl pu h
  obtain ⟨a, xs, rfl, hx, hw, q⟩ := h
  cases rx
  obtain ⟨its, r, ht, hz⟩ := I.tuple hx
  have hlen : its.toArray.size = xs.length := by rw [List.size_toArray]; exact r.length.symm
  refine ⟨"tuple", _, PyProof.Rows.slot_tuple_getitem.lookup, ht.typeIs, ?_⟩
  refine HT.getItem_tuple_cut ht hs pl pu (by rw [hlen]; exact hw) ?_ (by rw [hlen]; exact hz)
  rw [hlen]
  refine ⟨.ref s.heap.objs.size, _, I.laid (t' := s.toks) (o := .tup (cutV xs lo hi)) (fun b ob q => Heap.get?_push_of_some _ q) (Nat.le_refl _) ?_, rfl, q _ (I.hok.fresh (Nat.le_refl _))⟩
  exact ⟨Nat.le_trans (cutV_length xs lo hi) hz, _, (r.drop (HT.sIx xs.length 0 lo)).take (HT.sIx xs.length xs.length hi - HT.sIx xs.length 0 lo), IsTup.new _ _⟩

/-! ### t < u, t + u -/
/-- t + u, t not empty: u empty gives t itself -/
def rCatT (K : PySem.W.Frag) : R2 := fun x y H Q => ∃ a b xs ys, x = .ref a ∧ y = .ref b ∧ SqT K H a xs ∧ SqT K H b ys ∧ xs ≠ [] ∧ xs.length + ys.length ≤ sizeLine ∧
  (ys = [] → Q (.ref a) H) ∧ (ys ≠ [] → ∀ p, H p = none → Q (.ref p) (upd H p (.tup (xs ++ ys))))
theorem Vals.nil_iff {xs : List V} {us : List Value} (r : Vals xs us) : us = [] ↔ xs = [] := by
  cases r with
  | nil => simp
  | cons _ _ => simp
theorem op_catT : OpR X (binaryOp .Add) (rCatT X.K) := by
  intro pins s σ H x y v u Q I rx ry h
  obtain ⟨a, b, xs, ys, rfl, rfl, ha, hb, hx, hz, q1, q2⟩ := h
  cases rx
  cases ry
  obtain ⟨its, r1, p1, _⟩ := I.tuple ha
  obtain ⟨its2, r2, p2, _⟩ := I.tuple hb
  refine HT.cat_tup p1 p2 (fun z => hx (r1.nil_iff.mp z)) (fun z => ⟨.ref a, H, I, rfl, q1 (r2.nil_iff.mp z)⟩) (fun z => ?_) (by rw [← r1.length, ← r2.length]; exact hz)
  refine ⟨.ref s.heap.objs.size, _, I.laid (t' := s.toks) (o := .tup (xs ++ ys)) (fun b ob q => Heap.get?_push_of_some _ q) (Nat.le_refl _) ?_, rfl, q2 (fun w => z (r2.nil_iff.mpr w)) _ (I.hok.fresh (Nat.le_refl _))⟩
  exact ⟨by rw [List.length_append]; exact hz, _, r1.append r2, IsTup.new _ _⟩
end
end L2

namespace L2
open PySem PySem.Spec PyProof.Rows

/-! ### places -/
/-- the place that an index of any sign means -/
def ixN (n : Nat) (i : Int) : Option Nat := if 0 ≤ i then (if i < n then some i.toNat else none) else if -(n : Int) ≤ i then some (i + n).toNat else none
def atI {α : Type} (xs : List α) (i : Int) : Option α := (ixN xs.length i).bind fun j => xs[j]?
theorem ixN_seq {n : Nat} {i : Int} {j : Nat} (h : ixN n i = some j) : seqIndex? i n = some j ∧ j < n ∧ -(n : Int) ≤ i ∧ i < n := by
  unfold ixN at h
  by_cases h0 : 0 ≤ i
  · rw [if_pos h0] at h
    by_cases h1 : i < n
    · rw [if_pos h1] at h
      have e : i.toNat = j := Option.some.inj h
      exact ⟨by rw [seqIndex_of h0 h1, e], by omega, by omega, h1⟩
    · rw [if_neg h1] at h; cases h
  · rw [if_neg h0] at h
    by_cases h1 : -(n : Int) ≤ i
    · rw [if_pos h1] at h
      have e : (i + n).toNat = j := Option.some.inj h
      exact ⟨by rw [seqIndex_neg (by omega) h1, e], by omega, h1, by omega⟩
    · rw [if_neg h1] at h; cases h
theorem atI_get {α : Type} {xs : List α} {i : Int} {v : α} (h : atI xs i = some v) : ∃ j, seqIndex? i xs.length = some j ∧ xs[j]? = some v ∧ j < xs.length ∧ -(xs.length : Int) ≤ i ∧ i < xs.length := by
  unfold atI at h
  cases e : ixN xs.length i with
  | none => rw [e] at h; cases h
  | some j =>
    rw [e] at h
    obtain ⟨h1, h2, h3, h4⟩ := ixN_seq e
    exact ⟨j, h1, h, h2, h3, h4⟩
theorem atI_nat {α : Type} {xs : List α} {j : Nat} {v : α} (h : xs[j]? = some v) : atI xs (j : Int) = some v := by
  have hj : j < xs.length := (List.getElem?_eq_some_iff.mp h).1
  have e : ixN xs.length (j : Int) = some j := by
    unfold ixN
    rw [if_pos (by omega), if_pos (by omega)]; simp
  unfold atI; rw [e]; exact h

/-! ### what may be subscripted -/
/-- what stands as an index of a plain subscript -/
def PlainIx (b : Expr) : Prop := ∀ o i, subscripted b false o i = operate [o, i] (getItem o i)
/-- a subscript by values -/
def IxR (X : Cx) (r : R2) : Prop :=
  ∀ (value slice : Expr) (pins : List (Addr × Obj)) (s : Shared) (σ : St) (H : Hp) (x y : V) (v u : Value) (Q : VK), Inv X pins σ H s → RelV x v → RelV y u → r x y H Q →
    subscripted slice false v u = operate [v, u] (getItem v u) → wpAny (model X.prog X.w) X.A (subscriptTail value slice v u) (EP X pins σ Q) X.xe s
/-- a call of a builtin's method by values: the receiver, the arguments -/
def MtR (X : Cx) (id : String) (r : V → List V → Hp → VK → Prop) : Prop :=
  ∀ (pins : List (Addr × Obj)) (s : Shared) (σ : St) (H : Hp) (x : V) (xs : List V) (v : Value) (us : List Value) (Q : VK), Inv X pins σ H s → RelV x v → Vals xs us → r x xs H Q →
    wpAny (model X.prog X.w) X.A (call (.builtin id) (v :: us)) (EP X pins σ Q) X.xe s
section
variable {X : Cx} {a b : Expr} {ta tb : TE} {pos : Pos}
/-- a[b] -/
theorem pe_ix {r : R2} (hr : IxR X r) (ha : PE X a ta) (hb : PE X b tb) (hs : PlainIx b) : PE X (.Subscript a b pos) (tOp r ta tb) := by
  intro pins s σ H Q I h
  exact Subscript_ (binT ha hb I h fun v u s2 x y H2 I2 rx ry q => hr a b pins s2 σ H2 x y v u Q I2 rx ry q (hs _ _))

def rIxL (K : PySem.W.Frag) : R2 := fun x y H Q => ∃ p xs i v, x = .ref p ∧ y = .int i ∧ SqL K H p xs ∧ atI xs i = some v ∧ Q v H
def rIxT (K : PySem.W.Frag) : R2 := fun x y H Q => ∃ p xs i v, x = .ref p ∧ y = .int i ∧ SqT K H p xs ∧ atI xs i = some v ∧ Q v H
def rIxS : R2 := fun x y H Q => ∃ z i c, x = .str z ∧ y = .int i ∧ z.length ≤ sizeLine ∧ atI z.cps.toList i = some c ∧ Q (.str ⟨#[c]⟩) H
theorem ix_list : IxR X (rIxL X.K) := by
  intro value slice pins s σ H x y v u Q I rx ry h hs
  obtain ⟨p, xs, i, z, rfl, rfl, hq, he, q⟩ := h
  cases rx
  obtain ⟨t, rfl⟩ := ry
  obtain ⟨its, r, pl, hz⟩ := I.list hq
  obtain ⟨j, h1, h2, h3, h4, h5⟩ := atI_get he
  obtain ⟨w, ew, rw'⟩ := r.get h2
  have hl := r.length
  have hn := line63
  have fin : EP X pins σ Q w s := ⟨z, H, I, rw', q⟩
  by_cases h0 : 0 ≤ i
  · have hj : i.toNat = j := by
      rw [seqIndex_of h0 h5] at h1
      exact Option.some.inj h1
    exact item_listR pl.isList h0 (by omega) (by rw [hj]; simpa using ew) fin hs
  · have hj : (i + (its.toArray.size : Int)).toNat = j := by
      rw [seqIndex_neg (by omega) h4] at h1
      rw [List.size_toArray, ← hl]
      exact Option.some.inj h1
    exact subscriptTail_builtinR (x := w) pl.isList.typeIs slot_list_getitem.lookup
      (wpAny_getItem_list_neg (Q := fun r s' => r = w ∧ EP X pins σ Q r s') pl.isList (by omega) (by rw [List.size_toArray] <;> omega) (by omega) (by rw [hj]; simpa using ew) ⟨rfl, fin⟩) hs
theorem ix_tup : IxR X (rIxT X.K) := by
  intro value slice pins s σ H x y v u Q I rx ry h hs
  obtain ⟨p, xs, i, z, rfl, rfl, hq, he, q⟩ := h
  cases rx
  obtain ⟨t, rfl⟩ := ry
  obtain ⟨its, r, pl, hz⟩ := I.tuple hq
  obtain ⟨j, h1, h2, h3, h4, h5⟩ := atI_get he
  obtain ⟨w, ew, rw'⟩ := r.get h2
  have hl := r.length
  have hn := line63
  have fin : EP X pins σ Q w s := ⟨z, H, I, rw', q⟩
  exact subscriptTail_builtinR (x := w) pl.typeIs slot_tuple_getitem.lookup
    (getItem_tuple (j := j) (Q := fun r s' => r = w ∧ EP X pins σ Q r s') pl (by omega) (by omega) (by rw [List.size_toArray, ← hl]; exact h1) (by simpa using ew) ⟨rfl, fin⟩) hs
theorem ix_str : IxR X rIxS := by
  intro value slice pins s σ H x y v u Q I rx ry h hs
  obtain ⟨z, i, c, rfl, rfl, hz, he, q⟩ := h
  obtain ⟨t, rfl⟩ := rx
  obtain ⟨t', rfl⟩ := ry
  obtain ⟨j, h1, h2, h3, h4, h5⟩ := atI_get he
  have hl : z.cps.toList.length = z.length := by simp [Str.length]
  rw [hl] at h1 h4 h5
  have hn := line63
  exact tail_any (typeIs_str s z t) slot_str_getitem.lookup (getItem_str (c := c) (by
    have e1 : decide (i < -(2 ^ 63 : Int)) = false := decide_eq_false (by omega)
    have e2 : decide (i ≥ 2 ^ 63) = false := decide_eq_false (by omega)
    rw [e1, e2, Bool.or_false]) (by rw [h1]; simpa using h2) ⟨.str ⟨#[c]⟩, H, I.tok _, ⟨_, rfl⟩, q⟩) hs

/-! ### xs[i] = v, any sign -/
/-- the list's object behind a store -/
theorem mapSeq_set (its : List Value) (n j : Nat) (u : Value) : Obj.mapSeq (·.setIfInBounds j u) { cls := .type "list", data := .seq its.toArray n } = { cls := .type "list", data := .seq (its.set j u).toArray n } := by
  simp [Obj.mapSeq]
theorem Inv.lst {pins : List (Addr × Obj)} {σ : St} {H : Hp} {s : Shared} {p : Addr} {xs : List V} (I : Inv X pins σ H s) (h : H p = some (.lst xs)) :
    ∃ (its : List Value) (n : Nat), Vals xs its ∧ s.heap.get? p = some { cls := .type "list", data := .seq its.toArray n } ∧ xs.length ≤ sizeLine := by
  obtain ⟨z, its, n, r, e⟩ := I.hok p _ h
  exact ⟨its, n, r, e, z⟩
/-- the list at p is written by an update of its object -/
theorem Inv.lstUpd {pins : List (Addr × Obj)} {σ : St} {H : Hp} {s : Shared} {p : Addr} {xs ys : List V} {its its' : List Value} {n n' : Nat} {f : Obj → Obj} (I : Inv X pins σ H s) (h : H p = some (.lst xs))
    (ho : s.heap.get? p = some { cls := .type "list", data := .seq its.toArray n }) (hf : f { cls := .type "list", data := .seq its.toArray n } = { cls := .type "list", data := .seq its'.toArray n' }) (r : Vals ys its') (hz : ys.length ≤ sizeLine) (t : Nat) :
    Inv X pins σ (upd H p (.lst ys)) { s with heap := s.heap.update p f, toks := t } := by
  have e : (s.heap.update p f).get? p = some { cls := .type "list", data := .seq its'.toArray n' } := by
    rw [Heap.get?_update_self f ho (by rw [hf] <;> rfl), hf]
  refine I.write (x := p) (e := p) (by rw [h]; trivial) (.inl rfl) (fun b u hb q => (Heap.get?_update_other _ _ (Ne.symm hb)).trans q) ⟨_, e⟩ ?_
  exact ⟨hz, its', n', r, e⟩
def rSetL : V → V → V → Hp → (Hp → Prop) → Prop := fun o i v H Q => ∃ p xs k j, o = .ref p ∧ i = .int k ∧ H p = some (.lst xs) ∧ ixN xs.length k = some j ∧ Q (upd H p (.lst (xs.set j v)))
theorem set_list : PSet X rSetL := by
  intro pins s σ H o i v ov iv u Q I ro ri rv h
  obtain ⟨p, xs, k, j, rfl, rfl, hp, hj, q⟩ := h
  cases ro
  obtain ⟨t, rfl⟩ := ri
  obtain ⟨its, n, r, ho, hz⟩ := I.lst hp
  obtain ⟨h1, h2, h3, h4⟩ := ixN_seq hj
  have hl := r.length
  have hn := line63
  have I' : Inv X pins σ (upd H p (.lst (xs.set j v))) { s with heap := s.heap.update p (Obj.mapSeq (·.setIfInBounds j u)) } :=
    I.lstUpd hp ho (mapSeq_set its n j u) (r.set rv j) (by rw [List.length_set]; exact hz) s.toks
  by_cases h0 : 0 ≤ k
  · have hk : k.toNat = j := by
      rw [seqIndex_of h0 h4] at h1
      exact Option.some.inj h1
    exact PySem.W.ki_setAt ho h0 (by omega) (by rw [List.size_toArray, ← hl]; exact h4) (by rw [hk]; exact ⟨_, I', q⟩)
  · have hk : (k + (its.toArray.size : Int)).toNat = j := by
      rw [seqIndex_neg (by omega) h3] at h1
      rw [List.size_toArray, ← hl]
      exact Option.some.inj h1
    exact PySem.W.ki_setBack ho (by omega) (by rw [List.size_toArray, ← hl]; exact h3) (by omega) (by rw [hk]; exact ⟨_, I', q⟩)

/-! ### slices -/
theorem slice_bounds (lo hi : Option Int) (n : Nat) : (sliceBounds lo hi none n).1 = ((HT.sIx n 0 lo : Nat) : Int) ∧ (sliceBounds lo hi none n).2.1 = ((HT.sIx n n hi : Nat) : Int) ∧ (sliceBounds lo hi none n).2.2 = 1 := by
  refine ⟨?_, ?_, rfl⟩
  · cases lo with
    | none => simp [sliceBounds, HT.sIx]
    | some i =>
      simp only [sliceBounds, HT.sIx, Option.getD_none, show (1 : Int) > 0 by decide, if_true]
      by_cases h : i < 0
      · simp only [h, if_true] <;> omega
      · simp only [h, if_false] <;> omega
  · cases hi with
    | none => simp [sliceBounds, HT.sIx]
    | some i =>
      simp only [sliceBounds, HT.sIx, Option.getD_none, show (1 : Int) > 0 by decide, if_true]
      by_cases h : i < 0
      · simp only [h, if_true] <;> omega
      · simp only [h, if_false] <;> omega
theorem slicePick_cut (its : List Value) (lo hi : Option Int) : slicePick its.toArray lo hi none = ((its.drop (HT.sIx its.length 0 lo)).take (HT.sIx its.length its.length hi - HT.sIx its.length 0 lo)).toArray := by
  obtain ⟨h1, h2, h3⟩ := slice_bounds lo hi its.toArray.size
  unfold slicePick
  rw [h1, h2, h3]
  simp only [sliceRange_one, pick_run, List.size_toArray] <;> rfl
/-- xs[lo:hi] of a list: a new list -/
def rSlL (K : PySem.W.Frag) : V → Option Int → Option Int → Hp → VK → Prop := fun x lo hi H Q => ∃ a xs, x = .ref a ∧ SqL K H a xs ∧ ∀ p, H p = none → Q (.ref p) (upd H p (.lst (cutV xs lo hi)))
theorem sl_list : SlR X (rSlL X.K) := by
  intro pins s σ H x v vl vu lo hi sl Q I rx hs pl pu h
  obtain ⟨a, xs, rfl, hx, q⟩ := h
  cases rx
  obtain ⟨its, r, ht, hz⟩ := I.list hx
  have hlen := r.length
  refine ⟨"list", _, slot_list_getitem.lookup, ht.isList.typeIs, ?_⟩
  refine wpAny_getItem_list_slice ht.isList hs pl pu .none (by simp) ?_ (by rw [List.size_toArray] <;> omega)
  rw [slicePick_cut, ← hlen]
  refine ⟨.ref s.heap.objs.size, _, I.laid (t' := s.toks) (o := .lst (cutV xs lo hi)) (fun b ob q => Heap.get?_push_of_some _ q) (Nat.le_refl _) ?_, rfl, q _ (I.hok.fresh (Nat.le_refl _))⟩
  exact ⟨Nat.le_trans (cutV_length xs lo hi) hz, _, 0, (r.drop (HT.sIx xs.length 0 lo)).take (HT.sIx xs.length xs.length hi - HT.sIx xs.length 0 lo), Heap.get?_push_size _ rfl⟩

/-! ### in, not in: flat items -/
def flatV : V → Bool
  | .non => true
  | .bl _ => true
  | .int _ => true
  | .str _ => true
  | _ => false
/-- == of flat values -/
def eqV : V → V → Bool
  | .non, .non => true
  | .bl a, .bl b => a == b
  | .bl a, .int b => (if a then 1 else 0) == b
  | .int a, .bl b => a == (if b then 1 else 0)
  | .int a, .int b => a == b
  | .str a, .str b => a == b
  | _, _ => false
theorem eqAt_V {A : Around} {s : Shared} {y x : V} {u v : Value} (ry : RelV y u) (rx : RelV x v) (fy : flatV y = true) (fx : flatV x = true) : SeqAt.EqAt A s u v (eqV y x) := by
  cases y with
  | non =>
    cases ry
    cases x with
    | non => cases rx; exact SeqAt.EqAt.same _
    | bl b => cases rx; exact SeqAt.EqAt.none_bool b
    | int b => obtain ⟨t, rfl⟩ := rx; exact SeqAt.EqAt.none_int b t
    | str b => obtain ⟨t, rfl⟩ := rx; exact SeqAt.EqAt.none_str b t
    | _ => exact absurd (show false = true from fx) Bool.false_ne_true
  | bl a =>
    cases ry
    cases x with
    | non => cases rx; exact SeqAt.EqAt.bool_none a
    | bl b => cases rx; exact SeqAt.EqAt.bool_bool a b
    | int b => obtain ⟨t, rfl⟩ := rx; exact SeqAt.EqAt.bool_int a b t
    | str b => obtain ⟨t, rfl⟩ := rx; exact SeqAt.EqAt.bool_str a b t
    | _ => exact absurd (show false = true from fx) Bool.false_ne_true
  | int a =>
    obtain ⟨t', rfl⟩ := ry
    cases x with
    | non => cases rx; exact SeqAt.EqAt.int_none a t'
    | bl b => cases rx; exact SeqAt.EqAt.int_bool a t' b
    | int b => obtain ⟨t, rfl⟩ := rx; exact SeqAt.EqAt.int_int a t' b t
    | str b => obtain ⟨t, rfl⟩ := rx; exact SeqAt.EqAt.int_str a t' b t
    | _ => exact absurd (show false = true from fx) Bool.false_ne_true
  | str a =>
    obtain ⟨t', rfl⟩ := ry
    cases x with
    | non => cases rx; exact SeqAt.EqAt.str_none a t'
    | bl b => cases rx; exact SeqAt.EqAt.str_bool a t' b
    | int b => obtain ⟨t, rfl⟩ := rx; exact SeqAt.EqAt.str_int a t' b t
    | str b => obtain ⟨t, rfl⟩ := rx; exact SeqAt.EqAt.str_str a t' b t
    | _ => exact absurd (show false = true from fx) Bool.false_ne_true
  | _ => exact absurd (show false = true from fy) Bool.false_ne_true
/-- the items' answers, read off the values (a value's own answer does not lean on its token) -/
def eqU (x : V) (u : Value) : Bool := match u with
  | .none => eqV .non x
  | .bool b => eqV (.bl b) x
  | .int i _ => eqV (.int i) x
  | .str z _ => eqV (.str z) x
  | _ => false
theorem eqU_of {x y : V} {u : Value} (r : RelV y u) (f : flatV y = true) : eqU x u = eqV y x := by
  cases y with
  | non => cases r; rfl
  | bl b => cases r; rfl
  | int i => obtain ⟨t, rfl⟩ := r; rfl
  | str z => obtain ⟨t, rfl⟩ := r; rfl
  | _ => exact absurd (show false = true from f) Bool.false_ne_true
theorem any_eqU {x : V} : ∀ {xs : List V} {us : List Value}, Vals xs us → xs.all flatV = true → us.any (eqU x) = xs.any fun y => eqV y x
  | _, _, .nil, _ => rfl
  | y :: xs, u :: us, .cons r t, f => by
    rw [List.all_cons, Bool.and_eq_true] at f
    rw [List.any_cons, List.any_cons, eqU_of r f.1, any_eqU t f.2]
theorem mem_eqAt {A : Around} {s : Shared} {x : V} {v : Value} (rx : RelV x v) (fx : flatV x = true) : ∀ {xs : List V} {us : List Value}, Vals xs us → xs.all flatV = true → ∀ u ∈ us, SeqAt.EqAt A s u v (eqU x u)
  | _, _, .nil, _ => fun u hu => by cases hu
  | y :: xs, u :: us, .cons r t, f => fun u' hu => by
    rw [List.all_cons, Bool.and_eq_true] at f
    rcases List.mem_cons.mp hu with rfl | hu
    · rw [eqU_of r f.1]; exact eqAt_V r rx f.1 fx
    · exact mem_eqAt rx fx t f.2 u' hu
def inV (x : V) (xs : List V) : Bool := xs.any fun y => eqV y x
/-- x in a list or tuple of flat items -/
def rIn (K : PySem.W.Frag) (neg : Bool) : R2 := fun x y H Q => ∃ p xs, y = .ref p ∧ (SqL K H p xs ∨ SqT K H p xs) ∧ flatV x = true ∧ xs.all flatV = true ∧ Q (.bl (if neg then !inV x xs else inV x xs)) H
theorem op_in_seq : OpR X (compareOp .In) (rIn X.K false) := by
  intro pins s σ H x y v u Q I rx ry h
  obtain ⟨p, xs, rfl, hq, fx, fs, q⟩ := h
  cases ry
  rcases hq with hq | hq
  · obtain ⟨its, r, pl, hz⟩ := I.list hq
    refine SeqAt.in_listAt (eqU x) pl.isList (fun w hw => mem_eqAt rx fx r fs w (by simpa using hw)) ⟨.bl _, H, I, rfl, ?_⟩
    rw [show its.toArray.any (eqU x) = its.any (eqU x) by simp, any_eqU r fs]
    exact q
  · obtain ⟨its, r, pl, hz⟩ := I.tuple hq
    refine SeqAt.in_tupleAt (eqU x) pl (fun w hw => mem_eqAt rx fx r fs w (by simpa using hw)) ⟨.bl _, H, I, rfl, ?_⟩
    rw [show its.toArray.any (eqU x) = its.any (eqU x) by simp, any_eqU r fs]
    exact q

/-! ### len, list(x), tuple(x) of any list or tuple that is read -/
theorem call_len_seq : CallR X (.builtin "len") (fun xs H Q => ∃ p ys, xs = [.ref p] ∧ (SqL X.K H p ys ∨ SqT X.K H p ys) ∧ Q (.int ys.length) H) := by
  intro pins s σ H xs us Q I r h
  obtain ⟨p, ys, rfl, hq, q⟩ := h
  obtain ⟨u, rfl, rx⟩ := vals1 r
  cases rx
  have hn := line63
  rcases hq with hq | hq
  · obtain ⟨its, r', pl, hz⟩ := I.list hq
    have hlen := r'.length
    exact Calls.call_len_list pl.isList (by simp only [List.size_toArray] <;> omega) ⟨.int ys.length, H, I.tok _, ⟨s.toks + 1, by rw [List.size_toArray, hlen]⟩, q⟩
  · obtain ⟨its, r', pl, hz⟩ := I.tuple hq
    have hlen := r'.length
    exact len_tuple pl (by simp only [List.size_toArray] <;> omega) ⟨.int ys.length, H, I.tok _, ⟨s.toks + 1, by rw [List.size_toArray, hlen]⟩, q⟩
theorem call_len_str : CallR X (.builtin "len") (fun xs H Q => ∃ z, xs = [.str z] ∧ z.length ≤ sizeLine ∧ Q (.int z.length) H) := by
  intro pins s σ H xs us Q I r h
  obtain ⟨z, rfl, hz, q⟩ := h
  obtain ⟨u, rfl, t, rfl⟩ := vals1 r
  have hn := line63
  exact len_str (by omega) ⟨.int z.length, H, I.tok _, ⟨_, rfl⟩, q⟩
theorem call_list_of : CallR X (.type "list") (fun xs H Q => ∃ p ys, xs = [.ref p] ∧ (SqL X.K H p ys ∨ SqT X.K H p ys) ∧ ∀ l, H l = none → Q (.ref l) (upd H l (.lst ys))) := by
  intro pins s σ H xs us Q I r h
  obtain ⟨p, ys, rfl, hq, q⟩ := h
  obtain ⟨u, rfl, rx⟩ := vals1 r
  cases rx
  have fin : ∀ (its : List Value), Vals ys its → ys.length ≤ sizeLine → ∀ (h' : Heap) (c' : Nat), (∀ b o', s.heap.get? b = some o' → h'.get? b = some o') →
      h'.get? s.heap.objs.size = some { cls := .type "list", dict := none, data := .seq its.toArray c', slots := #[] } → EP X pins σ Q (.ref s.heap.objs.size) { s with heap := h' } := fun its r' hz h' c' kp e =>
    ⟨.ref s.heap.objs.size, _, I.laid (t' := s.toks) kp (Nat.le_refl _) (show ObjOk X.prog X.w _ h' _ (.lst ys) from ⟨hz, its, c', r', e⟩), rfl, q _ (I.hok.fresh (Nat.le_refl _))⟩
  rcases hq with hq | hq
  · obtain ⟨its, r', pl, hz⟩ := I.list hq
    have hlen := r'.length
    obtain ⟨o, ho, hc, n, hd⟩ := pl.isList
    exact call_list_seq p (.inl rfl) ho hc hd (fun h' c' kp e => fin its r' hz h' c' kp e) (by simp only [List.size_toArray] <;> omega)
  · obtain ⟨its, r', pl, hz⟩ := I.tuple hq
    have hlen := r'.length
    obtain ⟨o, ho, hc, n, hd⟩ := pl
    exact call_list_seq p (.inr rfl) ho hc hd (fun h' c' kp e => fin its r' hz h' c' kp e) (by simp only [List.size_toArray] <;> omega)
theorem call_tuple_of : CallR X (.type "tuple") (fun xs H Q => ∃ p ys, xs = [.ref p] ∧ ((SqL X.K H p ys ∧ ∀ l, H l = none → Q (.ref l) (upd H l (.tup ys))) ∨ (SqT X.K H p ys ∧ Q (.ref p) H))) := by
  intro pins s σ H xs us Q I r h
  obtain ⟨p, ys, rfl, h⟩ := h
  obtain ⟨u, rfl, rx⟩ := vals1 r
  cases rx
  rcases h with ⟨hq, q⟩ | ⟨hq, q⟩
  · obtain ⟨its, r', pl, hz⟩ := I.list hq
    have hlen := r'.length
    refine call_tuple_list pl.isList (fun h' kp => ?_) (by simp only [List.size_toArray] <;> omega)
    have I1 : Inv X pins σ H { s with heap := h' } := I.kept (t' := s.toks) kp
    have I2 : Inv X pins σ (upd H h'.objs.size (.tup ys)) { s with heap := h'.push { cls := .type "tuple", data := .seq its.toArray } } :=
      I1.laid (t' := s.toks) (fun b o e => Heap.get?_push_of_some _ e) (Nat.le_refl _) (show ObjOk X.prog X.w _ _ _ (.tup ys) from ⟨hz, its, r', IsTup.new _ _⟩)
    exact ⟨.ref h'.objs.size, _, I2, rfl, q _ (I1.hok.fresh (Nat.le_refl _))⟩
  · obtain ⟨its, r', pl, hz⟩ := I.tuple hq
    exact call_tuple_same pl ⟨.ref p, H, I, rfl, q⟩

/-! ### the call of a builtin's method: o.m(..) -/
/-- the value is of that builtin type -/
def tyV (K : PySem.W.Frag) (T : String) (x : V) (H : Hp) : Prop := match x with
  | .str _ => T = "str"
  | .int _ => T = "int"
  | .ref p => (T = "list" ∧ ∃ xs, SqL K H p xs) ∨ (T = "tuple" ∧ ∃ o, K.lookup p = some o ∧ o.cls = .type "tuple" ∧ o.dict = none) ∨
      (T = "dict" ∧ ((∃ kvs, H p = some (.dK kvs)) ∨ ∃ kvs, H p = some (.dT kvs))) ∨ (T = "set" ∧ ∃ S n, H p = some (.set S n))
  | _ => False
theorem tyV_is {pins : List (Addr × Obj)} {σ : St} {H : Hp} {s : Shared} {T : String} {x : V} {v : Value} (I : Inv X pins σ H s) (r : RelV x v) (ty : tyV X.K T x H) :
    s.TypeIs v T ∧ ∀ a, v = .ref a → ∃ ob, s.heap.get? a = some ob ∧ ob.dict = none := by
  cases x with
  | str z =>
    obtain ⟨t, rfl⟩ := r
    cases (show T = "str" from ty)
    exact ⟨typeIs_str s z t, fun _ e => nomatch e⟩
  | int i =>
    obtain ⟨t, rfl⟩ := r
    cases (show T = "int" from ty)
    exact ⟨typeIs_int s i t, fun _ e => nomatch e⟩
  | ref p =>
    cases r
    rcases ty with ⟨rfl, xs, hq⟩ | ⟨rfl, o, hk, hc, hd⟩ | ⟨rfl, hk⟩ | ⟨rfl, S, n, hk⟩
    · obtain ⟨its, _, pl, _⟩ := I.list hq
      refine ⟨pl.isList.typeIs, fun a e => ?_⟩
      cases e
      obtain ⟨o, n, e, c, hd, _⟩ := pl
      exact ⟨o, e, hd⟩
    · refine ⟨⟨o, I.kIn p o hk, hc⟩, fun a e => ?_⟩
      cases e
      exact ⟨o, I.kIn _ o hk, hd⟩
    · have z : ∃ o, s.heap.get? p = some o ∧ o.ExactDict := by
        rcases hk with ⟨kvs, hk⟩ | ⟨kvs, hk⟩
        · obtain ⟨_, _, _, _, o, _, _, e, ex, _⟩ := I.hok p _ hk
          exact ⟨o, e, ex⟩
        · obtain ⟨_, _, _, _, o, _, _, e, ex, _⟩ := I.hok p _ hk
          exact ⟨o, e, ex⟩
      obtain ⟨o, e, ex⟩ := z
      refine ⟨⟨o, e, ex.1⟩, fun a e2 => ?_⟩
      cases e2
      exact ⟨o, e, ex.2.1⟩
    · obtain ⟨o, _, _, _, e, ex, _⟩ := I.hok p _ hk
      refine ⟨⟨o, e, ex.1⟩, fun a e2 => ?_⟩
      cases e2
      exact ⟨o, e, ex.2.1⟩
  | _ => exact False.elim ty
def tBM (K : PySem.W.Frag) (T : String) (r : V → List V → Hp → VK → Prop) (to : TE) (t : TA) : TE := fun σ H Q => to σ H fun x H1 => tyV K T x H1 ∧ t σ H1 fun xs H2 => r x xs H2 Q
variable {o e : Expr} {es : List Expr} {to : TE} {t : TA} {name : Str} {apos cpos : Pos} {T id : String} {r : V → List V → Hp → VK → Prop}
theorem pe_bm (pa : PlainAttrs T) (slot : Slot T name id) (hty : typeOf (.builtin id) = pure (.type "method_descriptor")) (hm : MtR X id r) (ho : PE X o to) (ha : PA X (e :: es) t)
    (hbase : attributeBase o name X.env (eval o X.env) = eval o X.env := by rfl)
    (hfew : ((backTo cpos (starEach (e :: es) X.env)).all (fun x => !x.1) && (backToKw cpos (keywordEach [] X.env)).all (fun x => x.1.isSome)
      && decide ((e :: es).length + ([] : List Keyword).length + (if ([] : List Keyword).isEmpty then 0 else 1) < 30)) = true := by rfl)
    (hline : (apos.endLine == cpos.line) = true := by rfl) (hs : starEach (e :: es) X.env = (false, eval e X.env) :: starEach es X.env := by rfl) (hplain : (backTo cpos (starEach es X.env)).any (·.1) = false := by rfl) :
    PE X (.Call (.Attribute o name apos) (e :: es) [] cpos) (tBM X.K T r to t) := by
  intro pins s σ H Q I h
  refine wpAny_Call_method_late hbase hfew hline rfl (thn (ho pins s σ H _ I h) fun v s1 ⟨x, H1, I1, r1, ty, q1⟩ => ?_)
  obtain ⟨h1, h2⟩ := tyV_is I1 r1 ty
  refine ⟨T, id, pa, slot, hty, h1, h2, ?_⟩
  have hA := ha cpos pins s1 σ H1 _ I1 q1
  rw [hs] at hA ⊢
  refine Calls.callWith_builtin (by show (false || (backTo cpos (starEach es X.env)).any (·.1)) = false; rw [hplain] <;> rfl) (Calls.evalArgs_plain ?_)
  exact thn hA fun us s2 ⟨vs, H2, I2, r2, q2⟩ => hm pins s2 σ H2 x vs v us Q I2 r1 r2 q2
/- xs.append(e), list.index on a module's tuple .. are MtR facts of 06m -/
end
end L2

namespace L2
open PySem PySem.Spec PyProof.Rows

def MtM (X : Cx) (id : String) (r : V → List V → Hp → VK → Prop) : Prop :=
  ∀ (pins : List (Addr × Obj)) (s : Shared) (σ : St) (H : Hp) (x : V) (xs : List V) (v : Value) (us : List Value) (Q : VK), Inv X pins σ H s → RelV x v → Vals xs us → r x xs H Q →
    wpAny (model X.prog X.w) X.A (call (.builtin id) (v :: us)) (EP X pins σ Q) X.xe s

/-! ### lists of values -/
theorem Vals.one : ∀ {x : V} {us : List Value}, Vals [x] us → ∃ u, us = [u] ∧ RelV x u
  | _, _, .cons r .nil => ⟨_, rfl, r⟩
theorem Vals.rep {xs : List V} {us : List Value} (h : Vals xs us) : ∀ k : Nat, Vals (List.replicate k xs).flatten (List.replicate k us).flatten
  | 0 => .nil
  | k + 1 => by
    rw [List.replicate_succ, List.replicate_succ, List.flatten_cons, List.flatten_cons]
    exact Vals.append h (Vals.rep h k)
theorem foldl_rep (its : List Value) : ∀ (k : Nat) (acc : List Value),
    List.foldl (fun x1 x2 => x1 ++ x2) acc.toArray (List.replicate k its.toArray) = (acc ++ (List.replicate k its).flatten).toArray
  | 0, acc => by simp
  | k + 1, acc => by
    have e : acc.toArray ++ its.toArray = (acc ++ its).toArray := by simp
    have e2 : (acc ++ its) ++ (List.replicate k its).flatten = acc ++ (List.replicate (k + 1) its).flatten := by
      rw [List.replicate_succ, List.flatten_cons, List.append_assoc]
    rw [← e2, ← foldl_rep its k (acc ++ its), ← e, List.replicate_succ, List.foldl_cons]

section
variable {X : Cx} {pins : List (Addr × Obj)} {σ : St} {H : Hp} {s : Shared} {l b : Addr} {xs ys zs : List V}

/-! ### the two steps: a tracked list is rewritten, a new list is laid -/
theorem Inv.lset {its its' : List Value} {n : Nat} {f : Array Value → Array Value} {t' : Nat} (I : Inv X pins σ H s) (hH : H l = some (.lst xs))
    (e : s.heap.get? l = some { cls := .type "list", data := .seq its.toArray n }) (hf : f its.toArray = its'.toArray) (hv : Vals ys its') (hz : ys.length ≤ sizeLine) :
    Inv X pins σ (upd H l (.lst ys)) { s with heap := s.heap.update l (Obj.mapSeq f), toks := t' } := by
  have q := PySem.IsL.update e f
  rw [hf] at q
  refine I.write (x := l) (e := l) (by rw [hH]; exact trivial) (.inl rfl) (fun b' u hb hu => (Heap.get?_update_other s.heap (Obj.mapSeq f) (Ne.symm hb)).trans hu) ⟨_, q⟩ ?_
  exact ⟨hz, its', _, hv, q⟩
theorem Inv.lnew {its : List Value} {t' : Nat} (I : Inv X pins σ H s) (hv : Vals ys its) (hz : ys.length ≤ sizeLine) :
    Inv X pins σ (upd H s.heap.objs.size (.lst ys)) { s with heap := s.heap.push { cls := .type "list", data := .seq its.toArray }, toks := t' } :=
  I.laid (fun _ _ q => Heap.get?_push_of_some _ q) (Nat.le_refl _) ⟨hz, its, 0, hv, Heap.get?_push_size _ rfl⟩
theorem Inv.fresh (I : Inv X pins σ H s) : H s.heap.objs.size = none := I.hok.fresh (Nat.le_refl _)
theorem Inv.lstM (I : Inv X pins σ H s) (hH : H l = some (.lst xs)) : xs.length ≤ sizeLine ∧ ∃ (its : List Value) (n : Nat), Vals xs its ∧ xs.length = its.length ∧ s.heap.get? l = some { cls := .type "list", data := .seq its.toArray n } := by
  obtain ⟨z, its, n, r, e⟩ := I.hok l _ hH
  exact ⟨z, its, n, r, r.length, e⟩

theorem notLongL {n : Nat} (h : n ≤ sizeLine) : Builtin.List.listTooLong n = false := by
  unfold Builtin.List.listTooLong
  exact decide_eq_false (by omega)
end

section
variable {X : Cx}

/-! ### methods -/
def rAppend : V → List V → Hp → VK → Prop := fun x vs H Q => ∃ l xs y, x = .ref l ∧ vs = [y] ∧ H l = some (.lst xs) ∧ xs.length < sizeLine ∧ Q .non (upd H l (.lst (xs ++ [y])))
theorem mt_append : MtM X "list.append" rAppend := by
  intro pins s σ H x vs v us Q I rx rv h
  obtain ⟨l, xs, y, rfl, rfl, hH, hz, q⟩ := h
  cases rx
  obtain ⟨u, rfl, ru⟩ := rv.one
  obtain ⟨z, its, n, r, hl, e⟩ := I.lstM hH
  refine call_meets F.slot_list_append ⟨_, e, rfl⟩ F.entry_list_append (F.args_list_append_2 _ _) (PySem.list_append l its.toArray n u (by rw [List.size_toArray]; omega)) ⟨e, ?_⟩
  refine ⟨.non, _, I.lset (its' := its ++ [u]) hH e (by simp) (r.append (.cons ru .nil)) ?_, rfl, q⟩
  rw [List.length_append, List.length_singleton]
  omega

def rExtend : V → List V → Hp → VK → Prop := fun x vs H Q => ∃ l b xs zs, x = .ref l ∧ vs = [.ref b] ∧ H l = some (.lst xs) ∧ H b = some (.lst zs) ∧ xs.length + zs.length ≤ sizeLine ∧ Q .non (upd H l (.lst (xs ++ zs)))
theorem mt_extend : MtM X "list.extend" rExtend := by
  intro pins s σ H x vs v us Q I rx rv h
  obtain ⟨l, b, xs, zs, rfl, rfl, hH, hB, hz, q⟩ := h
  cases rx
  obtain ⟨u, rfl, ru⟩ := rv.one
  cases ru
  obtain ⟨z, its, n, r, hl, e⟩ := I.lstM hH
  obtain ⟨z2, its2, n2, r2, hl2, e2⟩ := I.lstM hB
  have hsz : its.toArray.size + its2.toArray.size ≤ sizeLine := by rw [List.size_toArray, List.size_toArray]; omega
  have hlong : ¬ (!its.toArray.isEmpty && Builtin.List.listTooLong (its.toArray.size + its2.toArray.size)) = true := by
    rw [notLongL hsz, Bool.and_false]
    exact Bool.false_ne_true
  refine call_meets F.slot_list_extend ⟨_, e, rfl⟩ F.entry_list_extend (F.args_list_extend_2 _ _)
    (AutoSeq1.list_extend_list_list_0 l its.toArray n b its2.toArray n2 hlong (by rw [List.size_toArray]; omega) (by omega)) ⟨e, e2, ?_⟩
  refine ⟨.non, _, I.lset (its' := its ++ its2) hH e (by simp) (r.append r2) ?_, rfl, q⟩
  rw [List.length_append]
  omega





/-! ### list + list, list += list, list * int -/
def rCat : R2 := fun x y H Q => ∃ l b xs zs, x = .ref l ∧ y = .ref b ∧ H l = some (.lst xs) ∧ H b = some (.lst zs) ∧ xs.length + zs.length ≤ sizeLine ∧ ∀ p, H p = none → Q (.ref p) (upd H p (.lst (xs ++ zs)))
theorem op_cat : OpR X (binaryOp .Add) rCat := by
  intro pins s σ H x y v u Q I rx ry h
  obtain ⟨l, b, xs, zs, rfl, rfl, hH, hB, hz, q⟩ := h
  cases rx
  cases ry
  obtain ⟨z, its, n, r, hl, e⟩ := I.lstM hH
  obtain ⟨z2, its2, n2, r2, hl2, e2⟩ := I.lstM hB
  refine PySem.P.add_list e e2 ?_ (by rw [List.size_toArray, List.size_toArray]; omega)
  have ea : its.toArray ++ its2.toArray = (its ++ its2).toArray := by simp
  rw [ea]
  exact ⟨.ref _, _, I.lnew (t' := s.toks) (r.append r2) (by rw [List.length_append]; omega), rfl, q _ I.fresh⟩
/-- a list times an int (a negative one is nothing) -/
def rRep : R2 := fun x y H Q => ∃ l k xs, x = .ref l ∧ y = .int k ∧ H l = some (.lst xs) ∧ -(2 ^ 63) ≤ k ∧ k < 2 ^ 63 ∧ xs.length * k.toNat ≤ sizeLine ∧
  ∀ p, H p = none → Q (.ref p) (upd H p (.lst (List.replicate k.toNat xs).flatten))
theorem len_rep {α : Type} (xs : List α) (k : Nat) : (List.replicate k xs).flatten.length = k * xs.length := by
  induction k with
  | zero => simp
  | succ k ih => rw [List.replicate_succ, List.flatten_cons, List.length_append, ih, Nat.succ_mul, Nat.add_comm]
theorem op_rep : OpR X (binaryOp .Mult) rRep := by
  intro pins s σ H x y v u Q I rx ry h
  obtain ⟨l, k, xs, rfl, rfl, hH, h1, h2, hz, q⟩ := h
  cases rx
  obtain ⟨t, rfl⟩ := ry
  obtain ⟨z, its, n, r, hl, e⟩ := I.lstM hH
  have hlen : its.toArray.size * k.toNat ≤ sizeLine := by rw [List.size_toArray, ← hl]; exact hz
  have hcap : ¬ its.toArray.size * k.toNat > (2 ^ 63 - 1) / 8 := by
    have : (sizeLine : Nat) ≤ (2 ^ 63 - 1) / 8 := by decide
    omega
  have hfit : ¬ (!Builtin.List.listFitsIndex k) = true := by
    rw [fitsIndex_both h1 h2]
    exact Bool.false_ne_true
  have hlong : ¬ Builtin.List.listTooLong (its.toArray.size * k.toNat) = true := by
    rw [notLongL hlen]
    exact Bool.false_ne_true
  have hnew : List.foldl (fun x1 x2 => x1 ++ x2) #[] (List.replicate (if its.toArray.isEmpty = true then 0 else k.toNat) its.toArray) = (List.replicate k.toNat its).flatten.toArray := by
    have f0 : ∀ m : Nat, List.foldl (fun x1 x2 => x1 ++ x2) #[] (List.replicate m its.toArray) = (List.replicate m its).flatten.toArray := fun m => by
      have := foldl_rep its m []
      rw [List.nil_append] at this
      exact this
    rw [f0]
    cases its with
    | nil => simp
    | cons a r' => rw [if_neg (by simp)]
  refine wpAny_binaryOp_repeat_ref (T := "list") (U := "int") (by decide) ⟨_, e, rfl⟩ (fun s' => typeIs_int s' k t) noFill_list_mul F.fills_int_mul F.slot_int_rmul repeat_list F.slot_int_index.lookup
    (call_meets F.slot_int_rmul (typeIs_int s k t) F.entry_int_rmul (F.args_int_rmul_2 _ _) (int___rmul___int_list k t l its.toArray n)
      ⟨e, rfl, ⟨_, e, rfl⟩, call_meets F.slot_list_mul ⟨_, e, rfl⟩ F.entry_list_mul (F.args_list_mul_2 _ _) (AutoListH.list___mul___list_int_3 l its.toArray n k t hfit hcap hlong) ⟨e, ?_⟩⟩)
  rw [hnew]
  exact ⟨.ref _, _, I.lnew (t' := s.toks) (r.rep k.toNat) (by rw [len_rep, Nat.mul_comm]; exact hz), rfl, q _ I.fresh⟩

/-! ### del xs[i] -/
end

/-! ### xs[a:b] = ys -/
section
variable {prog : Program} {w : World} {A : Around} {E : Value → Shared → Prop} {s : Shared}
set_option maxRecDepth 100000 in
end

section
variable {X : Cx}
end
end L2

namespace Att
open PySem PySem.W PySem.Calls PyProof.Rows

/-! ### the script -/
theorem ints_of_wellAll {P : Params} {h : Heap} : ∀ (ns : List Int) (vs : List Value), WellAll P h vs (ns.map WData.int) → IntsAre vs ns := by
  intro ns
  induction ns with
  | nil =>
    intro vs w
    rw [List.map_nil] at w
    cases w
    exact .nil
  | cons n ns ih =>
    intro vs w
    rw [List.map_cons] at w
    cases w with
    | cons a b =>
      cases a
      exact .cons _ _ (ih _ b)

theorem script_of {l : OpenLaw} {n : Nat} (hn : l.most = some n) {P : Params} {h : Heap} {args : List WData} {vals : List Value}
    (hpre : l.row.toRowW.claim.pre args = true) (hwl : WellAll P h vals args) :
    ∃ a vs ns, vals = [Value.ref a] ∧ args = [WData.list (ns.map WData.int)] ∧ h.get? a = some { cls := .type "list", data := .seq vs.toArray } ∧ IntsAre vs ns ∧ ns.length ≤ n := by
  have hsh : WShape.hasAll [] args [.list .int] = true := (pre_splitW hpre).1
  have hc : l.pre.holds [] { args := args } = true := (pre_splitW hpre).2
  obtain ⟨d, r, rfl, h1, h2⟩ := hasAllW_cons hsh
  obtain rfl := hasAllW_nil h2
  obtain ⟨xs, rfl, h3⟩ := hasW_list h1
  obtain ⟨ns, rfl⟩ := items_int h3
  have hlen : ns.length ≤ n := by
    unfold OpenLaw.pre at hc
    have h4 : (WTm.not (.lt (.lit (.int (n : Int))) (.len (.arg 0)))).holds [] { args := [.list (ns.map .int)] } = true := by
      have h4 := (holds_andW hc).1
      rw [hn] at h4
      exact h4
    have h5 := condW_of h4 (w_not (w_lt w_lit (w_len_list (w_arg rfl))))
    rw [List.length_map] at h5
    refine Nat.le_of_not_lt fun q => ?_
    have q' : (n : Int) < ((ns.length : Nat) : Int) := by omega
    first
      | (rw [decide_eq_true q'] at h5; exact absurd h5 (by decide))
      | (simp at h5; omega)
  cases hwl with
  | cons w1 w2 =>
    cases w2
    cases w1 with
    | list ho hall => exact ⟨_, _, ns, rfl, rfl, ho, ints_of_wellAll ns _ hall, hlen⟩

theorem post_true (l : OpenLaw) (args : List WData) : l.row.toRowW.claim.post args (.bool true) args = true :=
  postW_of (r := l.row.toRowW) (X := (true == true))
    (show WShape.has [] (.bool true) .bool = true by first | rfl | decide | simp [WShape.has, WShape.arms, WShape.armsAll])
    (show (WTm.eq .res (.lit (.bool true))).value [] { args := args, res := some (.bool true), after := args } = some (.bool (true == true)) from w_eq_bool (w_res rfl) w_lit) rfl

/-! ### the attachment: holds_open's last premise (the goal 'hc' behind k_head) from a wpAny of the law's body -/

/-- the same from a codeAny of the CALL (for a layer whose function contracts speak of calls) -/
theorem attach_call {l : OpenLaw} {n : Nat} {q : Program} {loose : List Str} {XP : (Str → Option Value) → Heap → Prop} {YP : World → Heap → Prop} {d : DefRec}
    (hn : l.most = some n) (hdf : d.params.defaults = [])
    (call : ∀ (w : World) (s₀ s₁ : Shared) (mg mb : Str → Option Value) (fa : Addr) (o : Obj) (pm cd doc : Value) (a : Addr) (vs : List Value) (ns : List Int),
      Ground q loose [] XP w s₀ mg mb s₁.heap → YP w s₁.heap →
      s₁.heap.get? fa = some o → o.data = .func (docDef d.name d.params d.body d.scope pm cd doc) → s₁.heap.CodeRec cd d.name → mg d.name = some (.ref fa) →
      s₁.heap.get? a = some { cls := .type "list", data := .seq vs.toArray } → IntsAre vs ns → ns.length ≤ n → s₁.gens = #[] →
      codeAny (model l.prog w) callerA (.call (.ref fa) ⟨[.ref a], []⟩) (fun r s' => r = .ok (.ret (.bool true)) ∧ OldK s₁.heap s'.heap ∧ s'.os = s₁.os ∧ AllBare s'.gens) s₁) :
    WalkO q loose XP YP l.row.toRowW d [] (fun f vs => PySem.call f vs) := by
  intro w s₀ s₁ mg mb G Y fa o pm cd doc dV kV ho hd hcd hD hmg hg args vals as hpre hlay hrd hwl hlo
  obtain rfl : dV = .none := Dflts.none hD hdf
  obtain rfl : kV = .none := Dflts.noKw hD
  obtain ⟨a, vs, ns, rfl, rfl, hobj, hints, hlen⟩ := script_of hn hpre hwl
  refine enter_call (codeAny_mono (call w s₀ s₁ mg mb fa o pm cd doc a vs ns G Y ho (fd_plain hd) hcd hmg hobj hints hlen hg) fun r s' hq => ?_)
  obtain ⟨rfl, h2, h3, h4⟩ := hq
  exact ⟨.inl ⟨.bool true, .bool true, [], rfl, fun _ => rfl, .bool true, post_true l _, fun _ => ⟨List.Pairwise.nil, fun _ hm => (nomatch hm)⟩⟩, h2, h3, h4⟩


/-! ### rules over ANY heap (no ledger) from facts about the written part K: the library's own take a ledger (News) for what they write -/
section
variable {prog : Program} {w : World} {A : Around} {E : Value → Shared → Prop} {s : Shared} {K : Frag}





/-! the whole heap as the ledger: makes every rule that writes through a ledger a rule over any heap -/

end
end Att

namespace L2
open PySem PySem.Spec PyProof.Rows

theorem vals_ints : ∀ {vs : List Value} {ns : List Int}, IntsAre vs ns → Vals (ns.map V.int) vs
  | _, _, .nil => .nil
  | _, _, .cons n t h => .cons ⟨t, rfl⟩ (vals_ints h)

/-- nothing is tracked but the script, known to the object (or it is an object of the module) -/
def Only (H : Hp) : Prop := ∀ b, H b = none ∨ ∃ o xs, H b = some (.frz o (.lst xs))

/-- THE HEAD: the law's promise, at the heap behind the top. F, the promise of the law's def, may use that base is part of the heap (so K.In base, base.Ns mainGlobals mg stand in Mod) -/
theorem law_call {P : Program} {w : World} {K : PySem.W.Frag} {mg mb : Str → Option Value} {CX : CXT} {k : Nat} {fa a : Addr} {fd : FuncData} {x : Str} {sp : Sp} {s₁ : Shared} {vs : List Value} {ns : List Int}
    (KX : K.In s₁.heap) (hns : s₁.heap.Ns mainGlobals mg) (hb : s₁.heap.Ns builtinsNs mb) (hbb : ∀ x : Str, x ≠ "__name__" → mb x = bootBuiltins x) (hlim : s₁.heap.NoLimit) (hg : s₁.gens = #[])
    (ha : s₁.heap.get? a = some { cls := .type "list", data := .seq vs.toArray }) (hi : IntsAre vs ns) (hl : ns.length ≤ sizeLine) (hr : Room k callerA)
    (F : ∀ base : Heap, K.In base → base.Ns mainGlobals mg → FnOk P w K mg base CX k fa fd [x] sp) (hbind : ∀ (s : Shared) (u : Value), BindsTo s fd ⟨[u], []⟩ [(x, u)])
    (hsp : ∀ H : Hp, Only H → SqL K H a (ns.map V.int) → sp [.ref a] H (fun v _ => v = .bl true) fun _ _ _ => False)
    (hCX : ∀ H e s', CX [] H s₁ (fun _ _ _ => False) e s' → False) :
    codeAny (model P w) callerA (.call (.ref fa) ⟨[.ref a], []⟩) (fun r s' => r = .ok (.ret (.bool true)) ∧ OldK s₁.heap s'.heap ∧ s'.os = s₁.os ∧ AllBare s'.gens) s₁ := by
  have rv := vals_ints hi
  have lenV := hi.length
  -- from an abstract heap in which nothing but the script may be tracked
  have core : ∀ H : Hp, Only H → SqL K H a (ns.map V.int) → HOk P w H s₁.heap → (∀ b, H b ≠ none → b = a) → (H a ≠ none → K.lookup a = none) →
      codeAny (model P w) callerA (.call (.ref fa) ⟨[.ref a], []⟩) (fun r s' => r = .ok (.ret (.bool true)) ∧ OldK s₁.heap s'.heap ∧ s'.os = s₁.os ∧ AllBare s'.gens) s₁ := by
    intro H hO hS hok hA hK
    have base_of : ∀ {b : Addr} {o : Obj}, s₁.heap.get? b = some o → H b = none → (hidT s₁.heap H).get? b = some o := fun e n => hidT_get e n
    have noA : ∀ {b : Addr} {o : Obj} {es : Array DictEntry} {ep : Nat}, s₁.heap.get? b = some o → o.data = .dict es ep → H b = none := fun {b o es ep} e d => by
      cases q : H b with
      | none => rfl
      | some u =>
        have e' : b = a := hA b (by rw [q]; simp)
        subst e'
        rw [ha] at e; cases e
        have d' : Data.seq vs.toArray _ = Data.dict es ep := d
        cases d'
    have nsK : ∀ {b : Addr} {m : Str → Option Value}, s₁.heap.Ns b m → (hidT s₁.heap H).Ns b m := fun {b m} ⟨o, es, ep, e, d, r⟩ => ⟨o, es, ep, base_of e (noA e d), d, r⟩
    have hKb : K.In (hidT s₁.heap H) := fun b o e => base_of (KX b o e) (by
      cases q : H b with
      | none => rfl
      | some u =>
        have e' : b = a := hA b (by rw [q]; simp)
        subst e'
        rw [hK (by rw [q]; simp)] at e; cases e)
    have hM : Mod K mg (hidT s₁.heap H) := ⟨hKb, nsK hns, ⟨mb, nsK hb, hbb⟩, let ⟨mc, h1, h2⟩ := hlim; ⟨mc, nsK h1, h2⟩⟩
    have e0 : Env0 P w K mg (hidT s₁.heap H) callerA [] s₁ H := ⟨rfl, hM, fun b o e => of_hidT e, Nat.le_of_eq (hidT_size _ _), trivial, fun b hb => absurd (show b ∈ ([] : List Addr) from hb) (by simp), hok, .of_eq hg⟩
    refine codeAny_mono ((F _ hKb (nsK hns)).run callerA [] s₁ H ⟨[.ref a], []⟩ [.ref a] [.ref a] _ _ hr e0 (hbind s₁ (.ref a)) (.cons rfl .nil) (hsp H hO hS)) fun r s' h => ?_
    cases r with
    | error e => exact (hCX H e s' h).elim
    | ok fl =>
      cases fl with
      | next => exact False.elim h
      | brk => exact False.elim h
      | cont => exact False.elim h
      | ret u =>
        obtain ⟨v, H', os, bare, un, hok', r', q⟩ := h
        have q' : v = .bl true := q
        subst q'
        obtain rfl : u = Value.bool true := r'
        refine ⟨rfl, OldK.of_keep fun b o e => ?_, os, bare⟩
        cases q : H b with
        | none => exact un.keep b o e q (by intro z; exact absurd (show b ∈ ([] : List Addr) from z) (by simp)) (by simp)
        | some u =>
          rcases hO b with z | ⟨ob, xs, z⟩
          · rw [q] at z; cases z
          · have z2 := un.frzs b ob _ z
            obtain ⟨e1, _⟩ := hok b _ z
            obtain ⟨e2, _⟩ := hok' b _ z2
            rw [e] at e1; cases e1
            exact e2
  cases hk : K.lookup a with
  | some o =>
    -- the script is one of the module's own objects
    have e := KX a o hk
    rw [ha] at e
    cases e
    refine core (fun _ => none) (fun _ => .inl rfl) (.inr ⟨_, vs.toArray, _, hk, rfl, rfl, rfl, by rw [List.size_toArray, lenV]; exact hl, by simpa using rv⟩) (fun b u z => by have z' : (none : Option HO) = some u := z; cases z') (fun b z => absurd rfl z) fun z => absurd rfl z
  | none =>
    refine core (fun b => if b = a then some (.frz { cls := .type "list", data := .seq vs.toArray } (.lst (ns.map V.int))) else none) (fun b => ?_) (.inl (.inr ⟨{ cls := .type "list", data := .seq vs.toArray }, if_pos rfl⟩)) (fun b u z => ?_) (fun b z => ?_) fun _ => hk
    · by_cases hb : b = a
      · exact .inr ⟨_, _, if_pos hb⟩
      · exact .inl (if_neg hb)
    · by_cases hb : b = a
      · have z' := (if_pos hb).symm.trans z
        cases z'
        subst hb
        exact ⟨ha, by rw [List.length_map]; exact hl, vs, _, rv, ha⟩
      · have z' := (if_neg hb).symm.trans z
        cases z'
    · by_cases hb : b = a
      · exact hb
      · exact absurd (if_neg hb) z
end L2

namespace L2
open PySem PySem.Spec PyProof.Rows


/-- the goal that k_head leaves (case hc), from the law's promise. F gives the function object fd (K's own) once, then the promise over every base -/
theorem walk_of {l : PySem.W.OpenLaw} {n k : Nat} {q : Program} {loose : List Str} {XP : (Str → Option Value) → Heap → Prop} {YP : World → Heap → Prop} {d : DefRec} {K : Params → PySem.W.Frag} {CX : World → CXT} {sp : World → Sp} {x : Str}
    (hn : l.most = some n) (hn2 : n ≤ sizeLine) (hdf : d.params.defaults = []) (hr : Room k callerA)
    (hY : ∀ (w : World) (h : Heap), YP w h → (K w.params).In h)
    (F : ∀ (w : World) (mg : Str → Option Value) (fa : Addr) (h : Heap), (K w.params).In h → h.Ns mainGlobals mg → mg d.name = some (.ref fa) →
      ∃ fd : FuncData, (∀ (s : Shared) (u : Value), BindsTo s fd ⟨[u], []⟩ [(x, u)]) ∧
        ∀ base : Heap, (K w.params).In base → base.Ns mainGlobals mg → FnOk l.prog w (K w.params) mg base (CX w) k fa fd [x] (sp w))
    (hsp : ∀ (w : World) (H : Hp) (a : Addr) (ns : List Int), ns.length ≤ n → Only H → SqL (K w.params) H a (ns.map V.int) → sp w [.ref a] H (fun v _ => v = .bl true) fun _ _ _ => False)
    (hCX : ∀ (w : World) (H : Hp) (s : Shared) (e : Value) (s' : Shared), CX w [] H s (fun _ _ _ => False) e s' → False) :
    PySem.W.WalkO q loose XP YP l.row.toRowW d [] (fun f vs => PySem.call f vs) := by
  refine Att.attach_call hn hdf fun w s₀ s₁ mg mb fa o pm cd doc a vs ns G Y ho hd hcd hmg hobj hints hlen hg => ?_
  have KX := hY w _ Y
  obtain ⟨fd, hb, hF⟩ := F w mg fa _ KX G.T.g hmg
  exact law_call KX G.T.g G.T.b G.T.builtins G.T.nolimit hg hobj hints (Nat.le_trans hlen hn2) hr hF hb (fun H hO hS => hsp w H a ns hlen hO hS) fun H e s' => hCX w H s₁ e s'
end L2

/- THE LAST THEOREM (shape; LID, My.* are yours):
   My.Adr: a structure of the addresses that your layer names (classes, functions); My.Txt K t: a structure (Prop) of the equations over K;
   My.txt_mk : {K} {implicit addresses ..} (e1 : nsIn K mainGlobals "law" = some (some (.ref f))) (e2 : K.lookup f = some ⟨oc, od, .func (fnOf "law" "law" params body scope dV kV doc pm an cdv ct), sl⟩) (e3 : codeIn K cdv "law" = true) .. : ∃ t, My.Txt K t

set_option maxRecDepth 100000 in
set_option maxHeartbeats 0 in
theorem PySem.Challenge.cw_LID_holds : PySem.Challenge.rw_LID.Holds := by
  w_on; o_law; k_head; (case hw => w_witness2)
  k_fill
  refine L2.walk_of (l := PySem.Challenge.rw_LID) (n := 63) (k := 40) (x := "script") (CX := fun w => ..) (sp := fun _ => My.sp_law) rfl (by decide) rfl ⟨rfl, by decide, by decide⟩ (fun w h Y => PySem.W.kIn_of Y) ?F ?S ?C
  case F =>
    intro w mg fa h KX G hmg
    have T : ∃ t, My.Txt (L2.KOf KX) t := by
      dsimp only [L2.KOf]                          -- K must stand as «<heap const> w.params» for k_is
      refine' My.txt_mk ?e1 ?e2 ?e3 ..
      (case e1 => PySem.W.k_is)                    -- in the order: a name -> its address -> its object -> its parts
      (case e2 => PySem.W.k_is)
      ..
    obtain ⟨t, T⟩ := T
    have e0 := hmg.symm.trans (PySem.W.mg_of KX G T.law)
    cases e0                                       -- fa is the law's own address
    exact ⟨_, fun s u => .of_eq rfl, fun base kb nb => My.law_fn T kb nb⟩     -- if «.of_eq rfl» comes too early: refine' ⟨_, ?b, fun base kb nb => My.law_fn T kb nb⟩; exact fun s u => .of_eq rfl
  case S => exact fun w H a ns hl hO hS => ..
  case C => exact ..
(the tactic k_is has no namespace: write k_is) -/

/-! SHORT WORDS over the layer: a def of the text, its body, what a loop and a test want. -/
namespace L2
open PySem PySem.Spec PyProof.Rows

/-! ### the text by places -/
/-- the j-th statement of a class's body -/
def inClass (s : Stmt) (j : Nat) : Stmt := match s with
  | .ClassDef _ _ _ body _ _ _ _ _ _ _ => body.getD j (.Pass ⟨0, 0, 0, 0⟩)
  | _ => .Pass ⟨0, 0, 0, 0⟩
def defArgs (s : Stmt) : Arguments := match s with
  | .FunctionDef _ a _ _ _ _ _ _ _ _ => a
  | _ => { posonlyargs := [], args := [], vararg := none, kwonlyargs := [], kw_defaults := [], kwarg := none, defaults := [] }
def defBody (s : Stmt) : List Stmt := match s with
  | .FunctionDef _ _ b _ _ _ _ _ _ _ => b
  | _ => []
def defScope (s : Stmt) : Scope := match s with
  | .FunctionDef _ _ _ _ _ _ sc _ _ _ => sc
  | _ => { kind := .function, names := [], isGenerator := false, isCoroutine := false }

/-! ### no exception leaves a def -/
abbrev CX0 : CXT := fun _ _ _ _ _ _ => False
abbrev E0 : XK := fun _ _ _ => False
theorem pass0 {X : Cx} : Passes CX0 X E0 := fun _ _ _ _ _ _ _ h => h.elim

/-! ### a def (or method) of the text as it stands behind the top -/
structure Fun (K : PySem.W.Frag) (x qual : Str) (st : Stmt) (f : Addr) (fd : FuncData) : Prop where
  ex : ∃ (oc : Value) (od : Option Addr) (kV doc pm : Value) (an : Option Addr) (cdv ct : Value) (osl : Array (Option Value)),
    fd = PySem.W.fnOf x qual (defArgs st) (defBody st) (defScope st) .none kV doc pm an cdv ct ∧ K.lookup f = some ⟨oc, od, .func fd, osl⟩ ∧ PySem.W.codeIn K cdv qual = true
  kp : PySem.W.keepIn K (.ref f) = true
section
variable {P : Program} {w : World} {K : PySem.W.Frag} {mg : Str → Option Value} {base : Heap}
/-- THE RULE for a def: its body as a term of rules, and the reading of that term -/
theorem Fun.ok {x qual : Str} {st : Stmt} {f : Addr} {fd : FuncData} {N ps : List Str} {k : Nat} {sp : Sp} (F : Fun K x qual st f fd) (S : FnScope N ps (defScope st)) (len : ∀ vs H Q E, sp vs H Q E → vs.length = ps.length)
    (hbody : ∀ (cdv : Value) (A : Around) (outer : List Env) (s : Shared) (H : Hp) (vs : List V) (Q : VK) (E : XK), Room k (A.deeper (envOfC qual (defScope st) s.heap.objs.size f cdv)) → sp vs H Q E →
      ∃ t, PSs (cxOf CX0 P w K mg base N qual (defScope st) f cdv A outer s H E).nox (defBody st) t ∧ t { nx := fun _ H' => Q .non H', rt := Q } (start N vs) H) : FnOk P w K mg base CX0 (k + 1) f fd ps sp := by
  obtain ⟨oc, od, kV, doc, pm, an, cdv, ct, osl, rfl, lk, hcd⟩ := F.ex
  refine fn_of lk hcd S len fun A outer s H vs Q E hr hsp => ?_
  obtain ⟨t, h, q⟩ := hbody cdv A outer s H vs Q E hr hsp
  exact ⟨t, h.nox, q⟩
/-- how its arguments bind (no defaults): h is «fun _ _ _ _ _ _ us hl => match us, hl with | [_, _], _ => rfl», one _ a parameter -/
theorem Fun.binds {x qual : Str} {st : Stmt} {f : Addr} {fd : FuncData} {ps : List Str} (F : Fun K x qual st f fd)
    (h : ∀ (kV doc pm : Value) (an : Option Addr) (cdv ct : Value) (us : List Value), us.length = ps.length → bindArgs (PySem.W.fnOf x qual (defArgs st) (defBody st) (defScope st) .none kV doc pm an cdv ct) ⟨us, []⟩ = pure (ps.zip us)) : Binds K fd ps [] := by
  obtain ⟨oc, od, kV, doc, pm, an, cdv, ct, osl, rfl, lk, hcd⟩ := F.ex
  exact .all (h kV doc pm an cdv ct)
theorem fun_mk {x qual : Str} {st : Stmt} {f : Addr} {oc : Value} {od an : Option Addr} {osl : Array (Option Value)} {kV doc pm cdv ct : Value} (l : K.lookup f = some ⟨oc, od, .func (PySem.W.fnOf x qual (defArgs st) (defBody st) (defScope st) .none kV doc pm an cdv ct), osl⟩)
    (c : PySem.W.codeIn K cdv qual = true) (k : PySem.W.keepIn K (.ref f) = true) : Fun K x qual st f (PySem.W.fnOf x qual (defArgs st) (defBody st) (defScope st) .none kV doc pm an cdv ct) := ⟨⟨oc, od, kV, doc, pm, an, cdv, ct, osl, rfl, l, c⟩, k⟩
end
theorem hu_of {A : Around} {k : Nat} (hr : Room k A) : A.units + 1 < cLine := Nat.lt_of_le_of_lt (Nat.add_le_add_left (by decide : 1 ≤ 64) _) hr.units

/-! ### expressions in short: the name that stands in the i-th slot -/
section
variable {X : Cx}
theorem pv (i : Nat) {x : Str} {pos : Pos} (hN : X.N[i]? = some x := by rfl) (hv : Vis X.env.scope x := by first | exact Or.inl rfl | exact Or.inr (Or.inl rfl) | exact Or.inr (Or.inr rfl)) (hd : (x == ("__debug__" : Str)) = false := by decide)
    (hcd : (x == ("__classdict__" : Str)) = false := by decide) : PE X (.Name x pos) (tVar i) := pe_var hN hv hd hcd
end

/-! ### tests -/
theorem iteF {A B : Prop} (h : B) : if false = true then A else B := by
  rw [if_neg Bool.false_ne_true]
  exact h
theorem iteT {A B : Prop} (h : A) : if true = true then A else B := by
  rw [if_pos rfl]
  exact h

/-! ### heaps -/
/-- all that was tracked is as it was -/
def Same (H H' : Hp) : Prop := ∀ b o, H b = some o → H' b = some o
theorem Same.trans {H H1 H2 : Hp} (a : Same H H1) (b : Same H1 H2) : Same H H2 := fun c o h => b c o (a c o h)
theorem Same.free {H H' : Hp} (e : Same H H') {l : Addr} (h : H' l = Option.none) : H l = Option.none := by
  cases q : H l with
  | none => rfl
  | some o =>
    rw [e l o q] at h
    cases h
theorem Same.seq {K : PySem.W.Frag} {H H' : Hp} {a : Addr} {xs : List V} (e : Same H H') (h : SqL K H a xs) : SqL K H' a xs := by
  rcases h with (h | ⟨o, h⟩) | h
  · exact .inl (.inl (e _ _ h))
  · exact .inl (.inr ⟨o, e _ _ h⟩)
  · exact .inr h

end L2

set_option linter.all false
namespace L2
/-! ### broken words, as lists of codes -/
def joinL (sep : List Nat) : List (List Nat) → List Nat
  | [] => []
  | [x] => x
  | x :: y :: r => x ++ sep ++ joinL sep (y :: r)
theorem joinL_nil : ∀ ls : List (List Nat), joinL [] ls = ls.flatten
  | [] => rfl
  | [x] => by simp [joinL]
  | x :: y :: r => by
    have := joinL_nil (y :: r)
    simp only [joinL, this, List.append_nil, List.flatten_cons]
/-! reading -/
def isLow (c : Nat) : Bool := decide (97 ≤ c ∧ c ≤ 122)
def Low (l : List Nat) : Prop := ∀ c ∈ l, isLow c = true
structure RS where
  w : List Nat
  g : List Nat
  lacks : Bool
end L2

set_option linter.all false
namespace L2
open PySem PySem.Builtin PySem.Builtin.Str
/-! ### texts as lists of codes -/
def S (l : List Nat) : Str := ⟨l.toArray⟩
theorem S_cps (l : List Nat) : (S l).cps.toList = l := rfl
theorem S_length (l : List Nat) : (S l).length = l.length := by show l.toArray.size = _; simp
theorem S_append (a b : List Nat) : S a ++ S b = S (a ++ b) := by
  show (⟨a.toArray ++ b.toArray⟩ : Str) = ⟨(a ++ b).toArray⟩
  rw [List.append_toArray]
theorem S_inj {a b : List Nat} (h : S a = S b) : a = b := by
  have := congrArg (fun z : Str => z.cps.toList) h
  exact this
/-- a slice's bound as a place among n -/
def sx (n d : Nat) : Option Int → Nat
  | none => d
  | some v => if v < 0 then (v + (n : Int)).toNat else min v.toNat n
def cutA {α : Type} (l : List α) (lo hi : Option Int) : List α := (l.drop (sx l.length 0 lo)).take (sx l.length l.length hi - sx l.length 0 lo)
theorem sx_le (n d : Nat) (hd : d ≤ n) (o : Option Int) : sx n d o ≤ n := by
  cases o with
  | none => exact hd
  | some v => simp only [sx]; split <;> omega
theorem sliceIx (lo hi : Option Int) (n : Nat) : strSliceIndices lo hi 1 n = (List.range (sx n n hi - sx n 0 lo)).map (sx n 0 lo + ·) := by
  have key : ∀ (a c : Nat), sliceRange (a : Int) (c : Int) 1 = (List.range (c - a)).map (a + ·) := fun a c => by
    unfold sliceRange
    have e : (if (1 : Int) > 0 then (if (a : Int) < (c : Int) then ((c : Int) - a + 1 - 1) / 1 else 0) else (if (a : Int) > (c : Int) then ((a : Int) - c - 1 - 1) / (-1) else 0)).toNat = c - a := by
      rw [if_pos (by decide)]
      split
      · rw [Int.ediv_one]; omega
      · omega
    simp only [e]
    apply List.map_congr_left
    intro k _
    omega
  have cl : ∀ v : Int, max 0 (min (if v < 0 then v + (n : Int) else v) (n : Int)) = (((if v < 0 then (v + (n : Int)).toNat else min v.toNat n) : Nat) : Int) := fun v => by
    by_cases hv : v < 0
    · simp only [if_pos hv]; omega
    · simp only [if_neg hv]; omega
  unfold strSliceIndices
  have h1 : ((1 : Int) > 0) = True := by simp
  cases lo with
  | none =>
    cases hi with
    | none => simp only [h1, if_true]; exact key 0 n
    | some v => simp only [h1, if_true, cl]; exact key 0 _
  | some u =>
    cases hi with
    | none => simp only [h1, if_true, cl]; exact key _ n
    | some v => simp only [h1, if_true, cl]; exact key _ _
theorem pickL (l : List Nat) : ∀ (m a : Nat), a + m ≤ l.length → ((List.range m).map (a + ·)).filterMap (l.toArray[·]?) = (l.drop a).take m
  | 0, a, _ => by simp
  | m + 1, a, h => by
    have ha : a < l.length := by omega
    rw [List.range_succ_eq_map, List.map_cons, List.filterMap_cons, List.map_map]
    have e : ((a + ·) ∘ Nat.succ) = ((a + 1) + ·) := by funext k; simp; omega
    have := pickL l m (a + 1) (by omega)
    rw [e, this, List.drop_eq_getElem_cons ha, List.take_succ_cons]
    simp [ha]
theorem slice_raw (l : List Nat) (lo hi : Option Int) :
    (if ((1 : Int) == 1 && (strSliceIndices lo hi 1 (S l).length).length == (S l).length) = true then S l else ⟨((strSliceIndices lo hi 1 (S l).length).filterMap ((S l).cps[·]?)).toArray⟩ : Str) = S (cutA l lo hi) := by
  have h1 := sx_le l.length l.length (Nat.le_refl _) hi
  have h2 := sx_le l.length 0 (Nat.zero_le _) lo
  rw [S_length, sliceIx]
  unfold cutA
  generalize sx l.length l.length hi = c at *
  generalize sx l.length 0 lo = a at *
  split
  · rename_i hc
    simp only [List.length_map, List.length_range, beq_self_eq_true, Bool.true_and, beq_iff_eq] at hc
    by_cases h0 : l.length = 0
    · have : l = [] := List.length_eq_zero_iff.mp h0
      subst this; simp
    · have ha : a = 0 := by omega
      have hc' : c = l.length := by omega
      subst ha hc'
      simp
  · by_cases hac : a ≤ c
    · show S _ = S _
      congr 1
      exact pickL l _ a (by omega)
    · have : c - a = 0 := by omega
      rw [this]
      simp [S]
/-- these signs stand at place i -/
def fits (p l : List Nat) (i : Nat) : Bool := decide (i + p.length ≤ l.length) && ((l.drop i).take p.length == p)
theorem joinS (sep : List Nat) : ∀ ls : List (List Nat), Str.join (S sep) (ls.map S) = S (joinL sep ls)
  | [] => rfl
  | [x] => rfl
  | x :: y :: r => by
    have ih := joinS sep (y :: r)
    show S x ++ S sep ++ Str.join (S sep) ((y :: r).map S) = _
    rw [ih, S_append, S_append]
    rfl
end L2

set_option linter.all false
namespace L2
/-! ### values: the plain reading -/
abbrev Pat := List Nat × List Int
def mx (a b : Int) : Int := if b > a then b else a
theorem mx_le {a b c : Int} : mx a b ≤ c ↔ a ≤ c ∧ b ≤ c := by unfold mx; split <;> omega
theorem mx_l (a b : Int) : a ≤ mx a b := by unfold mx; split <;> omega
theorem mx_r (a b : Int) : b ≤ mx a b := by unfold mx; split <;> omega
def put (t : List Int) (p : Nat) (v : Int) : List Int := t.set p (mx (t.getD p 0) v)
def laid (t : List Int) (b : Nat) : List Int → List Int
  | [] => t
  | v :: r => laid (put t b v) (b + 1) r
/-- what comes to place p -/
def laidN (m : Int) (p b : Nat) : List Int → Int
  | [] => m
  | v :: r => laidN (if b = p then mx m v else m) p (b + 1) r
def places (p f : List Nat) : List Nat := (List.range f.length).filter (fits p f)
def numP (f : List Nat) (p : Nat) (m : Int) (x : Pat) : Int := (places x.1 f).foldl (fun m b => laidN m p b x.2) m
def numA (f : List Nat) (p : Nat) (m : Int) (xs : List Pat) : Int := xs.foldl (numP f p) m
def frame (w : List Nat) : List Nat := 46 :: (w ++ [46])
theorem frame_length (w : List Nat) : (frame w).length = w.length + 2 := by simp [frame]
/-- the values of the gaps -/
def vals (xs : List Pat) (w : List Nat) : List Int := (List.range (w.length - 1)).map fun j => numA (frame w) (j + 2) 0 xs
theorem vals_length (xs : List Pat) (w : List Nat) : (vals xs w).length = w.length - 1 := by simp [vals]
theorem vals_get (xs : List Pat) (w : List Nat) (j : Nat) (h : j < w.length - 1) : (vals xs w)[j]? = some (numA (frame w) (j + 2) 0 xs) := by
  simp [vals, h]
/-! the other reading: only the gaps are kept -/
/-! places, one behind the other -/
/-! ### the greatest number: facts -/
theorem laidN_eq (p : Nat) : ∀ (ns : List Int) (m : Int) (b : Nat), laidN m p b ns = if b ≤ p ∧ p < b + ns.length then mx m (ns.getD (p - b) 0) else m
  | [], m, b => by
    simp only [laidN, List.length_nil]
    rw [if_neg (by omega)]
  | v :: r, m, b => by
    simp only [laidN, List.length_cons]
    rw [laidN_eq p r]
    by_cases e : b = p
    · subst e
      rw [if_pos rfl, if_neg (by omega), if_pos (by omega), Nat.sub_self]; rfl
    · rw [if_neg e]
      by_cases h : b + 1 ≤ p ∧ p < b + 1 + r.length
      · have : p - b = (p - (b + 1)) + 1 := by omega
        rw [if_pos h, if_pos (by omega), this]; rfl
      · rw [if_neg h, if_neg (by omega)]
/-- some pattern tells v for place p -/
def Tells (f : List Nat) (p : Nat) (xs : List Pat) (v : Int) : Prop := ∃ x ∈ xs, ∃ b ∈ places x.1 f, b ≤ p ∧ p < b + x.2.length ∧ v = x.2.getD (p - b) 0
theorem numP_le (f : List Nat) (p : Nat) (x : Pat) (m c : Int) : numP f p m x ≤ c ↔ m ≤ c ∧ ∀ b ∈ places x.1 f, b ≤ p → p < b + x.2.length → x.2.getD (p - b) 0 ≤ c := by
  unfold numP
  generalize places x.1 f = bs
  induction bs generalizing m with
  | nil => simp
  | cons b bs ih =>
    simp only [List.foldl_cons]
    rw [ih, laidN_eq]
    constructor
    · rintro ⟨h1, h2⟩
      split at h1
      · rename_i hc
        have := mx_le.mp h1
        refine ⟨this.1, fun b' hb' k1 k2 => ?_⟩
        rcases List.mem_cons.mp hb' with rfl | hb'
        · exact this.2
        · exact h2 b' hb' k1 k2
      · rename_i hc
        refine ⟨h1, fun b' hb' k1 k2 => ?_⟩
        rcases List.mem_cons.mp hb' with rfl | hb'
        · exact absurd ⟨k1, k2⟩ hc
        · exact h2 b' hb' k1 k2
    · rintro ⟨h1, h2⟩
      refine ⟨?_, fun b' hb' => h2 b' (List.mem_cons_of_mem _ hb')⟩
      split
      · rename_i hc
        exact mx_le.mpr ⟨h1, h2 b List.mem_cons_self hc.1 hc.2⟩
      · exact h1
theorem numA_le (f : List Nat) (p : Nat) : ∀ (xs : List Pat) (m c : Int), numA f p m xs ≤ c ↔ m ≤ c ∧ ∀ v, Tells f p xs v → v ≤ c
  | [], m, c => by
    show m ≤ c ↔ _
    constructor
    · exact fun h => ⟨h, fun v ⟨x, hx, _⟩ => by cases hx⟩
    · exact fun h => h.1
  | x :: xs, m, c => by
    show numA f p (numP f p m x) xs ≤ c ↔ _
    rw [numA_le f p xs, numP_le]
    constructor
    · rintro ⟨⟨h1, h2⟩, h3⟩
      refine ⟨h1, fun v ⟨y, hy, b, hb, k1, k2, e⟩ => ?_⟩
      rcases List.mem_cons.mp hy with rfl | hy
      · rw [e]; exact h2 b hb k1 k2
      · exact h3 v ⟨y, hy, b, hb, k1, k2, e⟩
    · rintro ⟨h1, h2⟩
      exact ⟨⟨h1, fun b hb k1 k2 => h2 _ ⟨x, List.mem_cons_self, b, hb, k1, k2, rfl⟩⟩, fun v ⟨y, hy, r⟩ => h2 v ⟨y, List.mem_cons_of_mem _ hy, r⟩⟩
theorem numA_ge {f : List Nat} {p : Nat} {xs : List Pat} {m v : Int} (h : Tells f p xs v) : v ≤ numA f p m xs := ((numA_le f p xs m _).mp (Int.le_refl _)).2 v h
theorem numA_ge0 {f : List Nat} {p : Nat} {xs : List Pat} {m : Int} : m ≤ numA f p m xs := ((numA_le f p xs m _).mp (Int.le_refl _)).1
end L2

namespace L2
open PySem
def clTo (cells : List (Str × Addr)) : List (Str × NameKind) → List (Str × Addr) → List (Str × Addr)
  | [], acc => acc
  | (n, k) :: r, acc => if k == .free then clTo cells r ((n, (cells.lookup n).getD 0) :: acc) else clTo cells r acc
theorem closureFor_to {scope : Scope} {env : Env} (h : ∀ y ∈ scope.names, y.2 = .free → ∃ c, env.cells.lookup y.1 = some c) :
    closureFor scope env = pure (clTo env.cells scope.names []) := by
  simp only [closureFor]
  generalize ([] : List (Str × Addr)) = acc
  revert h
  generalize scope.names = l
  intro h
  have key : ∀ (l : List (Str × NameKind)) (acc : List (Str × Addr)), (∀ y ∈ l, y.2 = .free → ∃ c, env.cells.lookup y.1 = some c) →
      (forIn l acc (fun x r => if (x.snd == NameKind.free) = true then do
            let a ← cellOf env x.fst
            pure (ForInStep.yield ((x.fst, a) :: r)) else pure (ForInStep.yield r)) : Sem _) = pure (clTo env.cells l acc) := by
    intro l
    induction l with
    | nil => intro acc _; rfl
    | cons y l ih =>
      intro acc h
      obtain ⟨n, k⟩ := y
      rw [List.forIn_cons]
      have hr := fun y hy => h y (List.mem_cons_of_mem _ hy)
      by_cases hk : (k == NameKind.free) = true
      · obtain ⟨c, hc⟩ := h (n, k) List.mem_cons_self (by simpa using hk)
        have hc' : env.cells.lookup n = some c := hc
        have e1 : cellOf env n = pure c := by unfold cellOf; rw [hc']
        simp only [hk, if_true, e1, clTo, hc', Option.getD_some, pure_bind]
        exact ih _ hr
      · simp only [Bool.not_eq_true] at hk
        simp only [hk, Bool.false_eq_true, if_false, clTo, pure_bind]
        exact ih _ hr
  rw [key l acc h]
  rfl
theorem clTo_free {cells : List (Str × Addr)} {x : Str} : ∀ (l : List (Str × NameKind)) (acc : List (Str × Addr)), ((x, NameKind.free) ∈ l ∨ acc.lookup x = some ((cells.lookup x).getD 0)) →
    (clTo cells l acc).lookup x = some ((cells.lookup x).getD 0)
  | [], acc, h => by
    rcases h with h | h
    · cases h
    · exact h
  | (n, k) :: r, acc, h => by
    unfold clTo
    by_cases hk : (k == NameKind.free) = true
    · rw [if_pos hk]
      refine clTo_free r _ ?_
      by_cases e : x = n
      · subst e; right; simp
      · rcases h with h | h
        · left
          rcases List.mem_cons.mp h with h | h
          · injection h with h1 _; exact absurd h1 e
          · exact h
        · right
          rw [List.lookup_cons, beq_eq_false_iff_ne.mpr e]; exact h
    · rw [if_neg hk]
      refine clTo_free r _ ?_
      rcases h with h | h
      · left
        rcases List.mem_cons.mp h with h | h
        · injection h with _ h2; rw [← h2] at hk; exact absurd rfl hk
        · exact h
      · exact .inr h
theorem clTo_of {cells : List (Str × Addr)} {x : Str} {c : Addr} : ∀ (l : List (Str × NameKind)) (acc : List (Str × Addr)), (clTo cells l acc).lookup x = some c →
    acc.lookup x = some c ∨ ((x, NameKind.free) ∈ l ∧ c = (cells.lookup x).getD 0)
  | [], acc, h => .inl h
  | (n, k) :: r, acc, h => by
    unfold clTo at h
    by_cases hk : (k == NameKind.free) = true
    · rw [if_pos hk] at h
      rcases clTo_of r _ h with q | ⟨q1, q2⟩
      · by_cases e : x = n
        · subst e
          rw [List.lookup_cons, beq_self_eq_true] at q
          have hk' : k = .free := by simpa using hk
          subst hk'
          exact .inr ⟨List.mem_cons_self, (Option.some.inj q).symm⟩
        · rw [List.lookup_cons, beq_eq_false_iff_ne.mpr e] at q
          exact .inl q
      · exact .inr ⟨List.mem_cons_of_mem _ q1, q2⟩
    · rw [if_neg hk] at h
      rcases clTo_of r _ h with q | ⟨q1, q2⟩
      · exact .inl q
      · exact .inr ⟨List.mem_cons_of_mem _ q1, q2⟩
section
variable {prog : Program} {w : World} {A : Around}
  {R : Result → Shared → Prop} {s : Shared}
theorem compLoop_any {M : Model} (hM : M = model prog w) {elt target iter : Expr} {ifs : List Expr} {scope : Scope} {pos : Pos} {it acc : Value} {env : Env} (I : Nat → Shared → Prop)
    (turn : ∀ n s, I n s → wpAny M A (pyNext it) (fun r z₁ => match r with
      | none => R (.ok .next) z₁
      | some v => wpAny M A (letOwnedTupleGo target it v) (fun _ z₀ => wpAny M A (assign target env v) (fun _ z₂ =>
          wpAny M A (forIn ifs true fun c r => if r = true then do let ok ← isTrue c env (eval c env); pure (ForInStep.yield ok) else pure (ForInStep.yield r)) (fun ok z₃ =>
            if ok = true then wpAny M A (eval elt env) (fun x z₄ =>
              wpAny M A (call (.builtin "list.append") [acc, x]) (fun _ z₅ => ∃ m, m < n ∧ I m z₅) (notedBy M A env fun e s' => R (.error e) s') z₄) (notedBy M A env fun e s' => R (.error e) s') z₃
            else ∃ m, m < n ∧ I m z₃) (notedBy M A env fun e s' => R (.error e) s') z₂) (notedBy M A env fun e s' => R (.error e) s') z₀) (notedBy M A env fun e s' => R (.error e) s') z₁) (notedBy M A env fun e s' => R (.error e) s') s)
    (n : Nat) (h : I n s) :
    codeAny M A (.compLoop (.ListComp elt [⟨target, iter, ifs, 0⟩] scope pos) 0 it acc env) R s := by
  subst hM
  refine codeAny_loop rfl I (fun k z hz => ?_) n h
  show wpAny _ A (Sem.onRaise (compTurn (.ListComp elt [⟨target, iter, ifs, 0⟩] scope pos) 0 it acc env) _) _ _ z
  rw [compTurn_list]
  refine wpAny_noted (wpAny_bind (wpAny_standAt (wpAny_bind (wpAny_mono (turn k z hz) (fun r z1 g1 => ?_) fun _ _ e => e))))
  match r, g1 with
  | none, g1 => exact wpAny_pure g1
  | some v, g1 =>
    refine wpAny_bind (wpAny_mono g1 (fun _ z2 g2 => wpAny_bind (wpAny_mono g2 (fun _ z3 g3 => wpAny_bind (wpAny_mono g3 (fun b z4 g4 => ?_) fun _ _ e => e)) fun _ _ e => e)) fun _ _ e => e)
    match b, g4 with
    | false, g4 => exact wpAny_pure ⟨rfl, g4⟩
    | true, g4 =>
      refine wpAny_bind (wpAny_bind (wpAny_mono g4 (fun y z5 g5 => wpAny_bind (wpAny_mono g5 (fun _ z6 g6 => ?_) fun _ _ e => e)) fun _ _ e => e))
      exact wpAny_pure (wpAny_pure ⟨rfl, g6⟩)
end
end L2

set_option Elab.async false
set_option linter.all false
set_option maxRecDepth 100000
namespace L2
open PySem PySem.Spec PyProof.Rows

/-! ### a list comprehension -/
def pick1 (σ : St) : Option Nat → Option V
  | none => none
  | some j => match σ[j]? with
    | some (some v) => some v
    | _ => none
def pick (ix : List (Option Nat)) (σ : St) : St := ix.map (pick1 σ)
theorem pick_get {ix : List (Option Nat)} {σ : St} {i : Nat} {v : V} (h : (pick ix σ)[i]? = some (some v)) : ∃ j, ix[i]? = some (some j) ∧ σ[j]? = some (some v) := by
  unfold pick at h
  rw [List.getElem?_map] at h
  cases e : ix[i]? with
  | none => rw [e] at h; cases h
  | some o =>
    rw [e] at h
    have h' : pick1 σ o = some v := Option.some.inj h
    cases o with
    | none => cases h'
    | some j =>
      refine ⟨j, rfl, ?_⟩
      unfold pick1 at h'
      dsimp only at h'
      split at h'
      · rename_i q; rw [q, h']
      · cases h'
def cxComp (X : Cx) (pins : List (Addr × Obj)) (scope : Scope) (N' : List Str) (fp : List Addr) (s3 : Shared) (H3 : Hp) : Cx where
  prog := X.prog
  w := X.w
  K := X.K
  mg := X.mg
  base := X.base
  A := X.A
  N := N'
  s₀ := s3
  H₀ := H3
  env := compEnvC scope (clTo X.env.cells scope.names []) s3.heap.objs.size X.env
  outer := X.stack
  stack := X.stack
  ex := fp
  fn := fun _ => false
  calm := X.calm
  pn := X.pn ++ pins
  xe := fun _ _ => False
def linkOk (names : List (Str × NameKind)) (N : List Str) : List (Option Nat) → List Str → Bool
  | [], [] => true
  | none :: r, _ :: q => linkOk names N r q
  | some j :: r, x :: q => N[j]? == some x && names.lookup x == some .free && linkOk names N r q
  | _, _ => false
def compOk (sc : Scope) (N : List Str) (scope : Scope) (N' : List Str) (ix : List (Option Nat)) : Bool :=
  scope.names.all (fun y => y.2 != .cell) && scope.names.all (fun y => y.2 != .local || scope.names.lookup y.1 == some .local)
    && scope.names.all (fun y => y.2 != .free || (sc.names.lookup y.1 == some .cell || sc.names.lookup y.1 == some .free)) && linkOk scope.names N ix N'
theorem linkOk_len {names : List (Str × NameKind)} {N : List Str} : ∀ {ix : List (Option Nat)} {N' : List Str}, linkOk names N ix N' = true → ix.length = N'.length
  | [], [], _ => rfl
  | none :: r, _ :: q, h => by simp only [linkOk] at h; simp [linkOk_len h]
  | some j :: r, x :: q, h => by simp only [linkOk, Bool.and_eq_true] at h; simp [linkOk_len h.2]
  | [], _ :: _, h => by simp [linkOk] at h
  | none :: _, [], h => by simp [linkOk] at h
  | some _ :: _, [], h => by simp [linkOk] at h
theorem linkOk_get {names : List (Str × NameKind)} {N : List Str} : ∀ {ix : List (Option Nat)} {N' : List Str} {i j : Nat} {x : Str}, linkOk names N ix N' = true → ix[i]? = some (some j) → N'[i]? = some x →
    N[j]? = some x ∧ names.lookup x = some .free
  | [], [], _, _, _, _, e, _ => by simp at e
  | none :: r, _ :: q, 0, _, _, _, e, _ => by simp at e
  | none :: r, _ :: q, i + 1, _, _, h, e, e' => by
    simp only [linkOk] at h
    exact linkOk_get h (by simpa using e) (by simpa using e')
  | some j :: r, x :: q, 0, _, _, h, e, e' => by
    simp only [linkOk, Bool.and_eq_true] at h
    simp at e e'
    subst e; subst e'
    exact ⟨by simpa using h.1.1, by simpa using h.1.2⟩
  | some j :: r, x :: q, i + 1, _, _, h, e, e' => by
    simp only [linkOk, Bool.and_eq_true] at h
    exact linkOk_get h.2 (by simpa using e) (by simpa using e')
  | [], _ :: _, _, _, _, h, _, _ => by simp [linkOk] at h
  | none :: _, [], _, _, _, h, _, _ => by simp [linkOk] at h
  | some _ :: _, [], _, _, _, h, _, _ => by simp [linkOk] at h
theorem mem_of_lookup {α β : Type} [BEq α] [LawfulBEq α] {x : α} {k : β} : ∀ {l : List (α × β)}, l.lookup x = some k → (x, k) ∈ l
  | [], h => by cases h
  | (n, k') :: r, h => by
    rw [List.lookup_cons] at h
    by_cases e : x == n
    · rw [e] at h
      have e' : x = n := by simpa using e
      cases h
      rw [e']; exact List.mem_cons_self
    · have e' : (x == n) = false := by simpa using e
      rw [e'] at h
      exact List.mem_cons_of_mem _ (mem_of_lookup h)
/-- the names as a comprehension's block sees them -/
theorem relabel_back {env : Env} {x : Str} {k : NameKind} : ∀ {names : List (Str × NameKind)}, (∀ y ∈ names, y.2 ≠ .cell) →
    (names.map fun (n, k) => if (k == NameKind.free && env.scope.kind == .function && env.kindOf n == some .cell) then (n, NameKind.cell) else (n, k)).lookup x = some k → (k = .cell ∨ k = .free) → (x, NameKind.free) ∈ names
  | [], _, h, _ => by cases h
  | (n, k') :: r, hc, h, hk => by
    rw [List.map_cons] at h
    have hc' := fun y hy => hc y (List.mem_cons_of_mem _ hy)
    have hk' : k' ≠ .cell := hc (n, k') List.mem_cons_self
    by_cases e : x = n
    · subst e
      dsimp only at h
      split at h
      · rename_i q
        rw [List.lookup_cons, beq_self_eq_true] at h
        have : k' = .free := by simp only [Bool.and_eq_true] at q; simpa using q.1.1
        subst this; exact List.mem_cons_self
      · rw [List.lookup_cons, beq_self_eq_true] at h
        have hkk : k' = k := Option.some.inj h
        subst hkk
        rcases hk with z | z
        · exact absurd z hk'
        · subst z; exact List.mem_cons_self
    · have e' : (x == n) = false := beq_eq_false_iff_ne.mpr e
      refine List.mem_cons_of_mem _ (relabel_back (env := env) hc' ?_ hk)
      dsimp only at h
      split at h
      · rw [List.lookup_cons, e'] at h; exact h
      · rw [List.lookup_cons, e'] at h; exact h
theorem relabel_free {env : Env} {x : Str} : ∀ {names : List (Str × NameKind)}, names.lookup x = some .free →
    (names.map fun (n, k) => if (k == NameKind.free && env.scope.kind == .function && env.kindOf n == some .cell) then (n, NameKind.cell) else (n, k)).lookup x = some .cell ∨
    (names.map fun (n, k) => if (k == NameKind.free && env.scope.kind == .function && env.kindOf n == some .cell) then (n, NameKind.cell) else (n, k)).lookup x = some .free
  | [], h => by cases h
  | (n, k') :: r, h => by
    rw [List.map_cons]
    rw [List.lookup_cons] at h
    by_cases e : x = n
    · subst e
      rw [beq_self_eq_true] at h
      have hk : k' = .free := Option.some.inj h
      subst hk
      dsimp only
      split
      · left; rw [List.lookup_cons, beq_self_eq_true]
      · right; rw [List.lookup_cons, beq_self_eq_true]
    · have e' : (x == n) = false := beq_eq_false_iff_ne.mpr e
      rw [e'] at h
      dsimp only
      split
      · rw [List.lookup_cons, e']; exact relabel_free h
      · rw [List.lookup_cons, e']; exact relabel_free h
structure CompFacts (X : Cx) (scope : Scope) (N' : List Str) (ix : List (Option Nat)) : Prop where
  nocell : ∀ y ∈ scope.names, y.2 ≠ .cell
  names : ∀ y ∈ scope.names, y.2 = .local → scope.names.lookup y.1 = some .local
  free : ∀ x, (x, NameKind.free) ∈ scope.names → X.env.kindOf x = some .cell ∨ X.env.kindOf x = some .free
  len : ix.length = N'.length
  link : ∀ {i j : Nat} {x : Str}, ix[i]? = some (some j) → N'[i]? = some x → X.N[j]? = some x ∧ scope.names.lookup x = some .free
theorem compFacts {X : Cx} {scope : Scope} {N' : List Str} {ix : List (Option Nat)} (h : compOk X.env.scope X.N scope N' ix = true) : CompFacts X scope N' ix := by
  simp only [compOk, Bool.and_eq_true, List.all_eq_true] at h
  obtain ⟨⟨⟨h1, h2⟩, h3⟩, h4⟩ := h
  refine ⟨fun y hy => by simpa using h1 y hy, fun y hy e => ?_, fun x hx => ?_, linkOk_len h4, fun e e' => linkOk_get h4 e e'⟩
  · have q := h2 y hy
    rw [e] at q
    simpa using q
  · have q := h3 _ hx
    have q' : X.env.scope.names.lookup x = some .cell ∨ X.env.scope.names.lookup x = some .free := by simpa using q
    exact q'
section
variable {X : Cx} {pins : List (Addr × Obj)} {σ : St} {H H' : Hp} {s s' : Shared} {scope : Scope} {N' : List Str} {ix : List (Option Nat)} {fp : List Addr}
theorem FpOk.stk {b : Addr} (I : Inv X pins σ H s) (f : FpOk X pins H b) : b ∉ frs X.stack := fun z => by
  rcases List.mem_cons.mp (I.stkSub b z) with q | q
  · exact f.2.1 q
  · exact f.2.2.1 q
theorem clTo_cell (I : Inv X pins σ H s) (F : CompFacts X scope N' ix) {x : Str} {c : Addr} (h : (clTo X.env.cells scope.names []).lookup x = some c) : X.env.cells.lookup x = some c ∧ (x, NameKind.free) ∈ scope.names := by
  rcases clTo_of _ _ h with q | ⟨q1, q2⟩
  · cases q
  · obtain ⟨c', e⟩ := I.ok.has x (F.free x q1)
    rw [e] at q2
    exact ⟨by rw [e, q2]; rfl, q1⟩
theorem ok_comp (I : Inv X pins σ H s) (F : CompFacts X scope N' ix) (hk : scope.kind = .function) (hf : ∀ b ∈ fp, FpOk X pins H b) (ho : ∀ b ∈ fp, ∃ o, s.heap.get? b = some o) : (cxComp X pins scope N' fp s H).Ok where
  mod := I.ok.mod
  kind := hk
  glob := I.ok.glob
  blt := I.ok.blt
  above := Nat.le_refl _
  inj := fun x y c e1 e2 => I.ok.inj x y c (clTo_cell I F e1).1 (clTo_cell I F e2).1
  has := fun x hx => by
    have q : (x, NameKind.free) ∈ scope.names := by
      rcases hx with z | z
      · exact relabel_back F.nocell z (.inl rfl)
      · exact relabel_back F.nocell z (.inr rfl)
    exact ⟨_, clTo_free _ _ (.inl q)⟩
  cab := fun x c e => by cases e
  hd := I.ok.hd
  frames := I.ok.frames
  stk := .inl rfl
  exf := fun b hb => by
    obtain ⟨o, e⟩ := ho b hb
    exact ⟨Nat.ne_of_lt (Heap.lt_size e), fun x c q => (hf b hb).2.2.2.2.1 x c (clTo_cell I F q).1⟩
  bs := fun b o e => I.bs b o e
  bsz := Nat.le_trans I.ok.bsz I.sz
  noex := fun b o e hb => by
    rcases (hf b hb).2.2.2.1 with z | z
    · exact I.ok.noex b o e z
    · exact absurd (Nat.lt_of_lt_of_le (Heap.lt_size (I.ok.bs b o e).1) z) (Nat.lt_irrefl _)
  exfs := fun b hb => FpOk.stk I (hf b hb)
  funs := I.stack
  frf := I.stkFree
theorem inv_comp {h' : Heap} {m : Str → Option Value} {ob : Obj} {t : Nat} (I : Inv X pins σ H s) (F : CompFacts X scope N' ix) (hk : scope.kind = .function) (hf : ∀ b ∈ fp, FpOk X pins H b) (ho : ∀ b ∈ fp, ∃ o, s.heap.get? b = some o)
    (hn : h'.Ns s.heap.objs.size m) (hs : Heap.SameBut s.heap.objs.size (s.heap.push ob) h') :
    Inv (cxComp X pins scope N' fp s H) [] (pick ix σ) H { s with heap := h', toks := t } := by
  have k : ∀ b u, s.heap.get? b = some u → h'.get? b = some u := fun b u e =>
    (hs.2 b (Nat.ne_of_lt (Heap.lt_size e))).trans (Heap.get?_push_of_some _ e)
  refine ⟨ok_comp I F hk hf ho, rfl, I.bare, Un.kept k, ⟨m, hn, fun i x v e1 e2 e3 => ?_⟩, fun x c e => ?_, I.fresh, fun x c e => ?_, fun p hp => ?_, I.hok.kept k, ?_⟩
  · obtain ⟨j, ej, ev⟩ := pick_get e2
    obtain ⟨l1, l2⟩ := F.link ej e1
    have fr : (x, NameKind.free) ∈ scope.names := mem_of_lookup l2
    obtain ⟨m0, hn0, hl⟩ := I.loc
    have vis : Vis X.env.scope x := .inr (F.free x fr)
    obtain ⟨u, r, l⟩ := hl j x v l1 ev vis
    refine ⟨u, r, .inr ⟨relabel_free l2, ?_⟩⟩
    rcases l with ⟨l, _⟩ | ⟨_, c, e, z⟩
    · rcases F.free x fr with q | q
      · rw [q] at l; cases l
      · rw [q] at l; cases l
    · refine ⟨c, ?_, z.keeps k⟩
      show (clTo X.env.cells scope.names []).lookup x = some c
      rw [clTo_free _ _ (.inl fr), e]; rfl
  · obtain ⟨v, z⟩ := I.cell x c (clTo_cell I F e).1
    exact ⟨v, z.keeps k⟩
  · exact I.freeC x c (clTo_cell I F e).1
  · have hp' : p ∈ X.pn ++ pins := by
      have z : p ∈ (X.pn ++ pins) ++ [] := hp
      rwa [List.append_nil] at z
    obtain ⟨e, n, ne, nf, d⟩ := I.pin p hp'
    refine ⟨k _ _ e, n, Nat.ne_of_lt (Heap.lt_size e), fun z => ?_, d⟩
    rcases List.mem_cons.mp (I.stkSub p.1 z) with q | q
    · exact ne q
    · exact nf q
  · show (pick ix σ).length = N'.length
    unfold pick; rw [List.length_map]; exact F.len
theorem HOk.sameBut {P : Program} {w : World} {h h' : Heap} {a : Addr} (ok : HOk P w H h) (hn : H a = none) (hs : Heap.SameBut a h h') : HOk P w H h' := fun b ob e => by
  refine (ok b ob e).stay (fun c w' hc q => (hs.2 c ?_).trans q) (fun _ q => q) fun _ _ q => q
  rintro rfl
  rcases hc with rfl | hc
  · rw [hn] at e; cases e
  · rw [hn] at hc; cases hc
theorem leave_comp {σ' : St} {ps : List (Addr × Obj)} {h' : Heap} (I : Inv X pins σ H s) (hf : ∀ b ∈ fp, FpOk X pins H b) (I' : Inv (cxComp X pins scope N' fp s H) ps σ' H' s') (hs : Heap.SameBut s.heap.objs.size s'.heap h') :
    Inv X pins σ H' { s' with heap := h' } := by
  have bk : ∀ {b o o'}, s.heap.get? b = some o → s'.heap.get? b = some o' → h'.get? b = some o' := fun {b o o'} e e' => (hs.2 b (Nat.ne_of_lt (Heap.lt_size e))).trans e'
  refine I.call' (s' := { s' with heap := h' }) (ch := fp) I'.os ⟨fun b o e n hb hx => ?_, fun b o e n hb hx => ?_, I'.base.free, fun b o e hx => ?_, I'.base.tups, I'.base.frzs, I'.base.tbls⟩ (I'.hok.sameBut I'.free hs) I'.bare fun b hb => ⟨(hf b hb).2.2.2.1, (hf b hb).2.1, (hf b hb).2.2.2.2.1, (hf b hb).2.2.2.2.2⟩
  · exact bk e (I'.base.keep b o e n hb hx)
  · obtain ⟨sl, q⟩ := I'.base.slot b o e n hb hx
    exact ⟨sl, bk e q⟩
  · obtain ⟨o', q⟩ := I'.base.there b o e hx
    exact ⟨o', bk e q⟩
end
/-- the tests of a comprehension -/
def PTs (X : Cx) (ifs : List Expr) (t : TT) : Prop :=
  ∀ (pins : List (Addr × Obj)) (s : Shared) (σ : St) (H : Hp) (Q : Bool → Hp → Prop), Inv X pins σ H s → t σ H Q →
    wpAny (model X.prog X.w) X.A (forIn ifs true fun c r => if r = true then do let ok ← isTrue c X.env (eval c X.env); pure (ForInStep.yield ok) else pure (ForInStep.yield r)) (TP X pins σ Q) X.xe s
def tTrue : TT := fun _ H Q => Q true H
theorem pts_nil {X : Cx} : PTs X [] tTrue := fun _ _ _ H _ I h => wpAny_tests_nil ⟨H, I, h⟩
/-- one turn and the end, by an invariant W: the turn, a measure, the items so far, the block's names, the heap -/
def CompRuns (J : It) (p : Addr) (g : TG) (tc : TT) (te : TE) (Q : VK) (σ0 : St) (H0 : Hp) : Prop :=
  ∃ W : Nat → Nat → List V → St → Hp → Prop, (∃ m, W 0 m [] σ0 H0) ∧ ∀ i m acc σ' H', W i m acc σ' H' → H' p = some (.lst acc) ∧
    ((J.stop i H' ∧ Q (.ref p) H') ∨ (J.go i H' ∧ acc.length < sizeLine ∧ ∃ N : List V → St → Hp → Prop, (∀ a' σ3 H3, N a' σ3 H3 → ∃ m', m' < m ∧ W (i + 1) m' a' σ3 H3) ∧
      ∀ x H2, J.yld i H' x H2 → g x σ' H2 fun σ3 H3 => tc σ3 H3 fun b H4 =>
        if b = true then te σ3 H4 fun v H5 => H5 p = some (.lst acc) ∧ N (acc ++ [v]) σ3 (upd H5 p (.lst (acc ++ [v]))) else N acc σ3 H4))
def tComp (ix : List (Option Nat)) (wi : TI) (g : TG) (tc : TT) (te : TE) : TE := fun σ H Q => wi σ H fun J H1 => ∀ p, H1 p = none → CompRuns J p g tc te Q (pick ix σ) (upd H1 p (.lst []))
section
variable {X : Cx} {elt tg iter : Expr} {ifs : List Expr} {scope : Scope} {pos : Pos} {N' : List Str} {ix : List (Option Nat)} {wi : TI} {g : TG} {tc : TT} {te : TE}
theorem comp_run {use : Option (Value → Sem Unit)} {R : Value → Shared → Prop} {pins : List (Addr × Obj)} {s : Shared} {σ : St} {H : Hp} {Q : VK} (hc : X.calm = true) (ok : compOk X.env.scope X.N scope N' ix = true) (hk : scope.kind = .function)
    (hi : PI X tg iter wi)
    (hg : ∀ pins fp s3 H3, PG (cxComp X pins scope N' fp s3 H3) tg g) (ht : ∀ pins fp s3 H3, PTs (cxComp X pins scope N' fp s3 H3) ifs tc) (he : ∀ pins fp s3 H3, PE (cxComp X pins scope N' fp s3 H3) elt te)
    (hs : ∀ x, foldedSetIterable iter X.env x = pure x) (I : Inv X pins σ H s) (h : tComp ix wi g tc te σ H Q)
    (fin : ∀ (p C : Addr) (H' : Hp) (s' : Shared), (∃ m, s'.heap.Ns C m) → FpOk X pins H' C → (∀ h', Heap.SameBut C s'.heap h' → Inv X pins σ H' { s' with heap := h' }) → Q (.ref p) H' → compPost (model X.prog X.w) X.A X.xe use R (.ref p) C (.ok .next) s') :
    wpAny (model X.prog X.w) X.A (comprehension (.ListComp elt [⟨tg, iter, ifs, 0⟩] scope pos) scope X.env (firstIterPos [⟨tg, iter, ifs, 0⟩] pos) (newList []) (firstAsync [⟨tg, iter, ifs, 0⟩]) (firstIter [⟨tg, iter, ifs, 0⟩] X.env) use) R X.xe s := by
  have F := compFacts ok
  refine wpAny_comprehension_free (cl := clTo X.env.cells scope.names []) rfl hs (closureFor_to fun y hy e => ?_) hk F.names ?_
  · obtain ⟨n, k⟩ := y
    have e' : k = .free := e
    subst e'
    exact I.ok.has n (F.free n hy)
  refine thn (hi pins s σ H _ I h) fun v s1 h1 => thn h1 fun itv s2 h2 => ?_
  obtain ⟨it, fp, tn, J, H2, e, I2, T, st2, f2, rd⟩ := h2
  subst e
  refine wpAny_newObj_type ?_
  have hp := I2.fresh
  obtain ⟨W, ⟨m0, w0⟩, turn⟩ := rd _ hp
  have I3 := I2.lnew (ys := []) (its := []) (t' := s2.toks) Paired.nil (Nat.zero_le _)
  have hf3 : ∀ b ∈ fp, FpOk X pins (upd H2 s2.heap.objs.size (.lst [])) b := fun b hb => by
    obtain ⟨o, e, _⟩ := T.obj _ _ st2 b hb
    exact ⟨by rw [upd_ne (Nat.ne_of_lt (Heap.lt_size e))]; exact (f2 b hb).1, (f2 b hb).2⟩
  have ho3 : ∀ b ∈ fp, ∃ o, (s2.heap.push { cls := .type "list", data := .seq ([] : List Value).toArray }).get? b = some o := fun b hb => by
    obtain ⟨o, e, _⟩ := T.obj _ _ st2 b hb
    exact ⟨o, Heap.get?_push_of_some _ e⟩
  have hpC : s2.heap.objs.size ≠ (s2.heap.push { cls := .type "list", data := .seq ([] : List Value).toArray }).objs.size := by
    rw [Heap.size_push]; exact Nat.ne_of_lt (Nat.lt_succ_self _)
  refine wpAny_newFunctionEnv F.nocell (by intro y hy; simp at hy) (fun h4 hn4 hs4 => ?_) hk
  have I4 := inv_comp (t := s2.toks + ([] : List (Str × Value)).length) I3 F hk hf3 ho3 hn4 hs4
  have k4 : ∀ b o, s2.heap.get? b = some o → h4.get? b = some o := fun b o e =>
    (hs4.2 b (Nat.ne_of_lt (Nat.lt_of_lt_of_le (Heap.lt_size e) (by rw [Heap.size_push]; exact Nat.le_succ _)))).trans (Heap.get?_push_of_some _ (Heap.get?_push_of_some _ e))
  have st4 : tn 0 h4 := T.keep _ _ _ st2 fun b _ o e => k4 b o e
  have fx : ∀ {H' : Hp} {ps : List (Addr × Obj)}, (∀ b ∈ fp, H' b = none) → (∀ b ∈ fp, ∀ p ∈ ps, p.1 ≠ b) → ∀ b ∈ fp, FpOk (cxComp X pins scope N' fp { s2 with heap := s2.heap.push { cls := .type "list", data := .seq ([] : List Value).toArray }, toks := s2.toks } (upd H2 s2.heap.objs.size (.lst []))) ps H' b := fun {H' ps} hn hps b hb => by
    obtain ⟨o, e⟩ := ho3 b hb
    refine ⟨hn b hb, Nat.ne_of_lt (Heap.lt_size e), FpOk.stk I3 (hf3 b hb), .inl hb, fun x c q => (hf3 b hb).2.2.2.2.1 x c (clTo_cell I3 F q).1, fun p hp => ?_⟩
    rcases List.mem_append.mp hp with z | z
    · exact (hf3 b hb).2.2.2.2.2 p z
    · exact hps b hb p z
  have loop : codeAny (model X.prog X.w) X.A (.compLoop (.ListComp elt [⟨tg, iter, ifs, 0⟩] scope pos) 0 (.ref it) (.ref s2.heap.objs.size) (compEnvC scope (clTo X.env.cells scope.names []) (s2.heap.push { cls := .type "list", data := .seq ([] : List Value).toArray }).objs.size X.env))
      (compPost (model X.prog X.w) X.A X.xe use R (.ref s2.heap.objs.size) (s2.heap.push { cls := .type "list", data := .seq ([] : List Value).toArray }).objs.size) { s2 with heap := h4, toks := s2.toks + ([] : List (Str × Value)).length } := by
    refine compLoop_any rfl (fun n s' => ∃ i acc σ' H', Inv (cxComp X pins scope N' fp { s2 with heap := s2.heap.push { cls := .type "list", data := .seq ([] : List Value).toArray }, toks := s2.toks } (upd H2 s2.heap.objs.size (.lst []))) [] σ' H' s' ∧ tn i s'.heap ∧ (∀ b ∈ fp, H' b = none) ∧ W i n acc σ' H')
      ?_ m0 ⟨0, [], _, _, I4, st4, fun b hb => (hf3 b hb).1, w0⟩
    rintro n s5 ⟨i, acc, σ5, H5, I5, st5, fr5, w5⟩
    obtain ⟨hacc, alt⟩ := turn i n acc σ5 H5 w5
    rcases alt with ⟨stop, q⟩ | ⟨go, hz, N, hN, step⟩
    · refine wpAny_mono (T.done (cxComp X pins scope N' fp { s2 with heap := s2.heap.push { cls := .type "list", data := .seq ([] : List Value).toArray }, toks := s2.toks } (upd H2 s2.heap.objs.size (.lst []))) rfl rfl rfl hc i [] s5 σ5 H5 (fun _ _ => False) I5 (fx (ps := []) fr5 (fun _ _ _ z => nomatch z)) st5 stop) (fun r s6 ⟨hr, I6⟩ => ?_) fun _ _ f => f.elim
      subst hr
      refine fin _ _ H5 s6 ?_ (I3.fpOk (Nat.le_refl _) I6.free) (fun h' hs' => leave_comp I3 hf3 I6 hs') q
      obtain ⟨m, hm, _⟩ := I6.loc
      exact ⟨m, hm⟩
    · refine wpAny_mono (T.item (cxComp X pins scope N' fp { s2 with heap := s2.heap.push { cls := .type "list", data := .seq ([] : List Value).toArray }, toks := s2.toks } (upd H2 s2.heap.objs.size (.lst []))) rfl rfl rfl hc i [] s5 σ5 H5 (fun _ _ => False) I5 (fx (ps := []) fr5 (fun _ _ _ z => nomatch z)) st5 go) (fun r s6 ⟨u, hr, h6⟩ => ?_) fun _ _ f => f.elim
      subst hr
      refine wpAny_mono h6 (fun _ s7 ⟨x, H7, I7, r7, y7, st7, fr7⟩ => ?_) fun _ _ f => f.elim
      have I7' := I7.pinned (fx (ps := []) fr7 (fun _ _ _ z => nomatch z)) (T.obj _ _ st7)
      refine wpAny_mono (hg _ _ _ _ _ s7 σ5 H7 x u _ I7' r7 (step x H7 y7)) (fun _ s8 ⟨σ8, H8, I8, q8⟩ => ?_) fun _ _ f => f.elim
      refine wpAny_mono (ht _ _ _ _ _ s8 σ8 H8 _ I8 q8) (fun b s9 ⟨H9, I9, q9⟩ => ?_) fun _ _ f => f.elim
      have keep : ∀ {σ' : St} {H' : Hp} {s' : Shared}, Inv (cxComp X pins scope N' fp { s2 with heap := s2.heap.push { cls := .type "list", data := .seq ([] : List Value).toArray }, toks := s2.toks } (upd H2 s2.heap.objs.size (.lst []))) ([] ++ pinsAt fp s7.heap) σ' H' s' →
          tn (i + 1) s'.heap ∧ ∀ b ∈ fp, H' b = none := fun {σ' H' s'} I' => by
        refine ⟨T.keep _ _ _ st7 fun b hb o e => (I'.pin (b, o) (List.mem_append_right _ (List.mem_append_right _ (mem_pinsAt hb e)))).1, fun b hb => ?_⟩
        obtain ⟨o, e, d⟩ := T.obj _ _ st7 b hb
        exact (I'.pin (b, o) (List.mem_append_right _ (List.mem_append_right _ (mem_pinsAt hb e)))).2.1
      cases b with
      | false =>
        rw [if_neg Bool.false_ne_true] at q9 ⊢
        obtain ⟨m', hm, w9⟩ := hN _ _ _ q9
        exact ⟨m', hm, i + 1, acc, σ8, H9, I9.unpinned, (keep I9).1, (keep I9).2, w9⟩
      | true =>
        rw [if_pos rfl] at q9 ⊢
        refine wpAny_mono (he _ _ _ _ _ s9 σ8 H9 _ I9 q9) (fun y s10 ⟨v10, H10, I10, r10, hl10, w10⟩ => ?_) fun _ _ f => f.elim
        refine wpAny_mono (mt_append (X := (cxComp X pins scope N' fp { s2 with heap := s2.heap.push { cls := .type "list", data := .seq ([] : List Value).toArray }, toks := s2.toks } (upd H2 s2.heap.objs.size (.lst [])))) _ s10 σ8 H10 (.ref s2.heap.objs.size) [v10] (.ref s2.heap.objs.size) [y] (fun _ H' => N (acc ++ [v10]) σ8 H') I10 rfl (.cons r10 .nil) ⟨_, acc, v10, rfl, rfl, hl10, hz, w10⟩) (fun _ s11 ⟨_, H11, I11, _, n11⟩ => ?_) fun _ _ f => f.elim
        obtain ⟨m', hm, w11⟩ := hN _ _ _ n11
        exact ⟨m', hm, i + 1, acc ++ [v10], σ8, H11, I11.unpinned, (keep I11).1, (keep I11).2, w11⟩
  exact codeAny_compStart_list loop (T.self X.A 0 _ _ _ st4 loop)
/-- [elt for tg in iter if ..] -/
theorem pe_comp (N' : List Str) (ix : List (Option Nat)) (hc : X.calm = true) (ok : compOk X.env.scope X.N scope N' ix = true) (hk : scope.kind = .function) (hi : PI X tg iter wi)
    (hg : ∀ pins fp s3 H3, PG (cxComp X pins scope N' fp s3 H3) tg g) (ht : ∀ pins fp s3 H3, PTs (cxComp X pins scope N' fp s3 H3) ifs tc) (he : ∀ pins fp s3 H3, PE (cxComp X pins scope N' fp s3 H3) elt te)
    (hs : ∀ x, foldedSetIterable iter X.env x = pure x := by intro _; rfl) : PE X (.ListComp elt [⟨tg, iter, ifs, 0⟩] scope pos) (tComp ix wi g tc te) := by
  intro pins s σ H Q I h
  rw [eval_ListComp]
  refine comp_run hc ok hk hi hg ht he hs I h fun p C H' s' hm fC inv q => ?_
  obtain ⟨m, hm⟩ := hm
  exact ⟨m, hm, fun h' hs' => ⟨.ref p, H', inv h' hs', rfl, q⟩⟩
/-- name = [..], where the store is made ahead of the block's end -/
theorem ps_setC {i : Nat} {x : Str} {pos' spos : Pos} (N' : List Str) (ix : List (Option Nat)) (hc : X.calm = true) (ok : compOk X.env.scope X.N scope N' ix = true) (hk : scope.kind = .function) (hN : X.N.Nodup) (hx1 : X.N[i]? = some x) (hx : X.env.scope.names.lookup x = some .local)
    (hi : PI X tg iter wi)
    (hg : ∀ pins fp s3 H3, PG (cxComp X pins scope N' fp s3 H3) tg g) (ht : ∀ pins fp s3 H3, PTs (cxComp X pins scope N' fp s3 H3) ifs tc) (he : ∀ pins fp s3 H3, PE (cxComp X pins scope N' fp s3 H3) elt te)
    (hw : swapsWith (.ListComp elt [⟨tg, iter, ifs, 0⟩] scope pos) (some (.Name x pos')) spos.line X.env = pure true := by rfl)
    (hs : ∀ x, foldedSetIterable iter X.env x = pure x := by intro _; rfl) : PS X (.Assign [.Name x pos'] (.ListComp elt [⟨tg, iter, ifs, 0⟩] scope pos) spos) (tAsg (tComp ix wi g tc te) (gName i)) := by
  intro pins s σ H D I h
  rw [exec_Assign_Name_used _ _ _ _ hw]
  refine wpAny_bind (wpAny_standAt (wpAny_bind ?_))
  show wpAny _ X.A (do let _ ← comprehension (.ListComp elt [⟨tg, iter, ifs, 0⟩] scope pos) scope X.env (firstIterPos [⟨tg, iter, ifs, 0⟩] pos) (newList []) (firstAsync [⟨tg, iter, ifs, 0⟩]) (firstIter [⟨tg, iter, ifs, 0⟩] X.env) (some (assign (.Name x pos') X.env))) _ _ s
  refine wpAny_bind (thn (comp_run (R := fun _ s' => ∃ σ' H', Inv X pins σ' H' s' ∧ D.nx σ' H') hc ok hk hi hg ht he hs I h fun p C H' s' hm fC inv q => ?_) fun _ s' ⟨σ', H', I', q⟩ => wpAny_pure (wpAny_pure ⟨σ', H', I', q⟩))
  have inv0 : Inv X pins σ H' s' := by
    have := inv s'.heap ⟨rfl, fun _ _ => rfl⟩
    exact this
  obtain ⟨m, hm⟩ := hm
  refine wpAny_assign_Name ?_
  refine store_ok2 (v := .ref p) inv0 hN hx1 (.inl hx) rfl (fun s'' I'' ⟨a, sb, ha⟩ => ?_) (.inr hx)
  have ne : C ≠ a := by
    rcases ha with z | z
    · rw [z]; exact fC.2.1
    · exact fun q => fC.2.2.2.2.1 x a z q.symm
  refine ⟨m, hm.sameBut sb ne, fun h' hs' => ⟨_, H', ?_, q⟩⟩
  exact I''.turned (t' := s''.toks) (it := C) (fun b o hb e => (hs'.2 b hb).trans e) fC.1 fC.2.1 fC.2.2.2.1 fC.2.2.2.2.1 fC.2.2.2.2.2
end
end L2

set_option Elab.async false
set_option linter.all false
set_option maxRecDepth 100000
namespace L2
open PySem PySem.Spec PyProof.Rows
/-! ### data -/
inductive Dt where
  | non | bl (b : Bool) | int (i : Int) | str (x : Str) | tup (ds : List Dt) | lst (ds : List Dt)
mutual
def Is (H : Hp) : V → Dt → Prop
  | v, .non => v = .non
  | v, .bl b => v = .bl b
  | v, .int i => v = .int i
  | v, .str x => v = .str x
  | v, .tup ds => ∃ a xs, v = .ref a ∧ H a = some (.tup xs) ∧ IsL H xs ds
  | v, .lst ds => ∃ a xs, v = .ref a ∧ H a = some (.lst xs) ∧ IsL H xs ds
def IsL (H : Hp) : List V → List Dt → Prop
  | [], [] => True
  | x :: xs, d :: ds => Is H x d ∧ IsL H xs ds
  | _, _ => False
end
mutual
def dep : Dt → Nat
  | .tup ds => depL ds + 1
  | .lst ds => depL ds + 1
  | _ => 0
def depL : List Dt → Nat
  | [] => 0
  | d :: ds => max (dep d) (depL ds)
end

mutual
theorem Is.same {H H' : Hp} (h : ∀ b o, H b = some o → H' b = some o) : ∀ {d : Dt} {v : V}, Is H v d → Is H' v d
  | .non, _, k => by simp only [Is] at k ⊢; exact k
  | .bl _, _, k => by simp only [Is] at k ⊢; exact k
  | .int _, _, k => by simp only [Is] at k ⊢; exact k
  | .str _, _, k => by simp only [Is] at k ⊢; exact k
  | .tup ds, _, k => by
    simp only [Is] at k ⊢
    obtain ⟨a, xs, e, h1, h2⟩ := k
    exact ⟨a, xs, e, h _ _ h1, IsL.same h h2⟩
  | .lst ds, _, k => by
    simp only [Is] at k ⊢
    obtain ⟨a, xs, e, h1, h2⟩ := k
    exact ⟨a, xs, e, h _ _ h1, IsL.same h h2⟩
theorem IsL.same {H H' : Hp} (h : ∀ b o, H b = some o → H' b = some o) : ∀ {ds : List Dt} {xs : List V}, IsL H xs ds → IsL H' xs ds
  | [], [], _ => by simp only [IsL]
  | d :: ds, x :: xs, k => by
    simp only [IsL] at k ⊢
    exact ⟨Is.same h k.1, IsL.same h k.2⟩
  | [], _ :: _, k => by simp only [IsL] at k
  | _ :: _, [], k => by simp only [IsL] at k
end
theorem IsL.length {H : Hp} : ∀ {ds : List Dt} {xs : List V}, IsL H xs ds → xs.length = ds.length
  | [], [], _ => rfl
  | d :: ds, x :: xs, k => by
    simp only [IsL] at k
    simp only [List.length_cons, IsL.length k.2]
  | [], _ :: _, k => by simp only [IsL] at k
  | _ :: _, [], k => by simp only [IsL] at k
theorem IsL.get {H : Hp} : ∀ {ds : List Dt} {xs : List V} {i : Nat}, IsL H xs ds → i < ds.length → ∃ x d, xs[i]? = some x ∧ ds[i]? = some d ∧ Is H x d
  | [], _, _, _, h => by simp at h
  | d :: ds, x :: xs, 0, k, _ => by
    simp only [IsL] at k
    exact ⟨x, d, rfl, rfl, k.1⟩
  | d :: ds, x :: xs, i + 1, k, h => by
    simp only [IsL] at k
    obtain ⟨y, e, h1, h2, h3⟩ := IsL.get (i := i) k.2 (by simpa using h)
    exact ⟨y, e, by simpa using h1, by simpa using h2, h3⟩
  | _ :: _, [], _, k, _ => by simp only [IsL] at k
theorem IsL.ints (H : Hp) : ∀ ns : List Int, IsL H (ns.map V.int) (ns.map Dt.int)
  | [] => by simp only [List.map_nil, IsL]
  | n :: ns => by simp only [List.map_cons, IsL, Is, true_and]; exact IsL.ints H ns
/-! as the library's data -/
mutual
def toP : Dt → PyData
  | .non => .none
  | .bl b => .bool b
  | .int i => .int i
  | .str x => .str x
  | .tup ds => .tuple (toPs ds)
  | .lst ds => .list (toPs ds)
def toPs : List Dt → List PyData
  | [] => []
  | d :: ds => toP d :: toPs ds
end
mutual
theorem Is.reads {P : Program} {w : World} {H : Hp} {h : Heap} (ok : HOk P w H h) : ∀ {d : Dt} {v : V} {u : Value}, Is H v d → RelV v u → ∃ as, Reads h u (toP d) as
  | .non, _, _, k, r => by simp only [Is] at k; subst k; cases r; exact ⟨_, Reads.none⟩
  | .bl b, _, _, k, r => by simp only [Is] at k; subst k; cases r; exact ⟨_, Reads.bool b⟩
  | .int i, _, _, k, r => by simp only [Is] at k; subst k; obtain ⟨t, rfl⟩ := r; exact ⟨_, Reads.int i t⟩
  | .str x, _, _, k, r => by simp only [Is] at k; subst k; obtain ⟨t, rfl⟩ := r; exact ⟨_, Reads.str x t⟩
  | .tup ds, _, _, k, r => by
    simp only [Is] at k
    obtain ⟨a, xs, rfl, h1, h2⟩ := k
    cases r
    obtain ⟨_, its, rv, o, ho, hc, n, hd⟩ := (show ObjOk P w H h a (.tup xs) from ok a _ h1)
    obtain ⟨as, q⟩ := IsL.reads ok h2 rv
    exact ⟨_, Reads.tuple ho hc hd (by simpa using q)⟩
  | .lst ds, _, _, k, r => by
    simp only [Is] at k
    obtain ⟨a, xs, rfl, h1, h2⟩ := k
    cases r
    obtain ⟨_, its, n, rv, e⟩ := (show ObjOk P w H h a (.lst xs) from ok a _ h1)
    obtain ⟨as, q⟩ := IsL.reads ok h2 rv
    exact ⟨_, Reads.list e rfl rfl (by simpa using q)⟩
theorem IsL.reads {P : Program} {w : World} {H : Hp} {h : Heap} (ok : HOk P w H h) : ∀ {ds : List Dt} {xs : List V} {us : List Value}, IsL H xs ds → Vals xs us → ∃ as, ReadsAll h us (toPs ds) as
  | [], [], _, _, .nil => ⟨_, ReadsAll.nil⟩
  | d :: ds, x :: xs, _, k, .cons r t => by
    simp only [IsL] at k
    obtain ⟨as, q⟩ := Is.reads ok k.1 r
    obtain ⟨bs, q2⟩ := IsL.reads ok k.2 t
    exact ⟨_, ReadsAll.cons q q2⟩
  | [], _ :: _, _, k, _ => by simp only [IsL] at k
  | _ :: _, [], _, k, _ => by simp only [IsL] at k
end
def okD (d : Dt) : Prop := SeqAt.shaped (toP d) = true
def eqD (d e : Dt) : Bool := PyData.eqv (toP d) (toP e)
theorem eqD_self {d : Dt} (h : okD d) : eqD d d = true := SeqAt.eqv_refl _ (SeqAt.canLay_of_shaped h)
end L2

set_option Elab.async false
set_option linter.all false
set_option maxRecDepth 100000
namespace L2
open PySem PySem.Spec PyProof.Rows

/-! ### weaker readings -/
section
variable {X : Cx}
theorem OpR.imp {f : Value → Value → Sem Value} {r r' : R2} (h : OpR X f r) (hi : ∀ x y H Q, r' x y H Q → r x y H Q) : OpR X f r' := fun pins s σ H x y v u Q I rx ry q => h pins s σ H x y v u Q I rx ry (hi x y H Q q)
theorem CallR.imp {f : Value} {r r' : List V → Hp → VK → Prop} (h : CallR X f r) (hi : ∀ xs H Q, r' xs H Q → r xs H Q) : CallR X f r' := fun pins s σ H xs us Q I rs q => h pins s σ H xs us Q I rs (hi xs H Q q)
end
section
variable {X : Cx} {pins : List (Addr × Obj)} {σ : St} {H : Hp} {s : Shared} {Q : VK}
theorem endS {z : Str} {t : Tok} (I : Inv X pins σ H s) (q : Q (.str z) H) : EP X pins σ Q (.str z t) s := ⟨.str z, H, I, ⟨t, rfl⟩, q⟩
theorem endB {b : Bool} (I : Inv X pins σ H s) (q : Q (.bl b) H) : EP X pins σ Q (.bool b) s := ⟨.bl b, H, I, rfl, q⟩
end
/-! ### what stands at an address, to be read -/
def lstR (H : Hp) (a : Addr) : Option (List V) := match H a with
  | some (.lst xs) => some xs
  | some (.frz _ (.lst xs)) => some xs
  | _ => none
def tupR (H : Hp) (a : Addr) : Option (List V) := match H a with
  | some (.tup xs) => some xs
  | _ => none
def seqR (H : Hp) (a : Addr) : Option (List V) := match lstR H a with
  | some xs => some xs
  | none => tupR H a
theorem lstR_of {H : Hp} {a : Addr} {xs : List V} (h : H a = some (.lst xs)) : lstR H a = some xs := by unfold lstR; rw [h]
theorem tupR_of {H : Hp} {a : Addr} {xs : List V} (h : H a = some (.tup xs)) : tupR H a = some xs := by unfold tupR; rw [h]
theorem seqR_lst {H : Hp} {a : Addr} {xs : List V} (h : H a = some (.lst xs)) : seqR H a = some xs := by unfold seqR; rw [lstR_of h]
theorem seqR_tup {H : Hp} {a : Addr} {xs : List V} (h : H a = some (.tup xs)) : seqR H a = some xs := by
  have e : lstR H a = none := by unfold lstR; rw [h]
  unfold seqR; rw [e]; exact tupR_of h
theorem lstR_sq {K : PySem.W.Frag} {H : Hp} {a : Addr} {xs : List V} (h : lstR H a = some xs) : SqL K H a xs := by
  unfold lstR at h
  split at h
  · rename_i e; cases h; exact .inl (.inl e)
  · rename_i e; cases h; exact .inl (.inr ⟨_, e⟩)
  · cases h
theorem tupR_sq {K : PySem.W.Frag} {H : Hp} {a : Addr} {xs : List V} (h : tupR H a = some xs) : SqT K H a xs := by
  unfold tupR at h
  split at h
  · rename_i e; cases h; exact .inl (.inl e)
  · cases h
theorem seqR_sq {K : PySem.W.Frag} {H : Hp} {a : Addr} {xs : List V} (h : seqR H a = some xs) : SqL K H a xs ∨ SqT K H a xs := by
  unfold seqR at h
  split at h
  · rename_i e; cases h; exact .inl (lstR_sq e)
  · exact .inr (tupR_sq h)
/-- a tuple of these items is told, a new one or one that stood -/
def GetT (H : Hp) (xs : List V) (Q : VK) : Prop := ∀ p H', H' p = some (.tup xs) → (∀ b o, H b = some o → H' b = some o) → Q (.ref p) H'
theorem GetT.new {H : Hp} {xs : List V} {Q : VK} (h : GetT H xs Q) {p : Addr} (hp : H p = none) : Q (.ref p) (upd H p (.tup xs)) :=
  h p _ upd_same fun b o e => by rw [upd_ne (ne_of_none e hp)]; exact e
theorem GetT.old {H : Hp} {xs : List V} {Q : VK} (h : GetT H xs Q) {p : Addr} (hp : H p = some (.tup xs)) : Q (.ref p) H := h p _ hp fun b o e => e
def GetL (H : Hp) (xs : List V) (Q : VK) : Prop := ∀ p, H p = none → Q (.ref p) (upd H p (.lst xs))
/-! ### operators -/
def fAdd : R2 := fun x y H Q => match x, y with
  | .int i, .int j => Q (.int (i + j)) H
  | .str i, .str j => i.length + j.length ≤ sizeLine ∧ Q (.str (i ++ j)) H
  | .ref a, .ref b => match H a, H b with
    | some (.lst xs), some (.lst ys) => xs.length + ys.length ≤ sizeLine ∧ GetL H (xs ++ ys) Q
    | some (.tup xs), some (.tup ys) => xs ≠ [] ∧ xs.length + ys.length ≤ sizeLine ∧ GetT H (xs ++ ys) Q
    | _, _ => False
  | _, _ => False
def fMul : R2 := fun x y H Q => match x, y with
  | .int i, .int j => CMul i j ∧ Q (.int (i * j)) H
  | .str z, .int n => z.length * n.toNat ≤ 1000000 ∧ -(2 ^ 62) < n ∧ n < 2 ^ 62 ∧ Q (.str (Txt.mul z n)) H
  | .ref a, .int k => match H a with
    | some (.lst xs) => -(2 ^ 63) ≤ k ∧ k < 2 ^ 63 ∧ xs.length * k.toNat ≤ sizeLine ∧ GetL H (List.replicate k.toNat xs).flatten Q
    | _ => False
  | _, _ => False
def fI (C : Int → Int → Prop) (g : Int → Int → V) : R2 := fun x y H Q => match x, y with
  | .int i, .int j => C i j ∧ Q (g i j) H
  | _, _ => False
def fI0 (g : Int → Int → V) : R2 := fun x y H Q => match x, y with
  | .int i, .int j => Q (g i j) H
  | _, _ => False
theorem fI0_rI0 {g : Int → Int → V} : ∀ x y H Q, fI0 g x y H Q → rI0 g x y H Q := fun x y H Q h => by
  unfold fI0 at h
  split at h
  · exact ⟨_, _, rfl, rfl, h⟩
  · exact h.elim
theorem fI_rI {C : Int → Int → Prop} {g : Int → Int → V} : ∀ x y H Q, fI C g x y H Q → rI C g x y H Q := fun x y H Q h => by
  unfold fI at h
  split at h
  · exact ⟨_, _, rfl, rfl, h.1, h.2⟩
  · exact h.elim
section
variable {X : Cx}
theorem o_add : OpR X (binaryOp .Add) fAdd := by
  intro pins s σ H x y v u Q I rx ry h
  unfold fAdd at h
  split at h
  · exact op_add pins s σ H _ _ v u Q I rx ry ⟨_, _, rfl, rfl, h⟩
  · exact op_add_str pins s σ H _ _ v u Q I rx ry ⟨_, _, rfl, rfl, h.1, h.2⟩
  · split at h
    · rename_i h1 h2
      exact op_cat pins s σ H _ _ v u Q I rx ry ⟨_, _, _, _, rfl, rfl, h1, h2, h.1, h.2⟩
    · rename_i xs ys h1 h2
      refine op_catT pins s σ H _ _ v u Q I rx ry ⟨_, _, _, _, rfl, rfl, SqT.of h1, SqT.of h2, h.1, h.2.1, fun e => ?_, fun _ p hp => h.2.2.new hp⟩
      subst e
      have := h.2.2
      rw [List.append_nil] at this
      exact this.old h1
    · exact h.elim
  · exact h.elim
theorem o_sub : OpR X (binaryOp .Sub) (fI0 fun i j => .int (i - j)) := op_sub.imp fI0_rI0
theorem o_fdiv : OpR X (binaryOp .FloorDiv) (fI CDiv fun i j => .int (i / j)) := op_fdiv.imp fI_rI
theorem o_mod : OpR X (binaryOp .Mod) (fI (fun _ j => 0 < j) fun i j => .int (i % j)) := op_mod.imp fI_rI
theorem o_pow : OpR X (binaryOp .Pow) (fI CPow fun i j => .int (i ^ j.toNat)) := op_pow.imp fI_rI
theorem mulOk_of {z : Str} {n : Int} (h : z.length * n.toNat ≤ 1000000) (h1 : -(2 ^ 62) < n) (h2 : n < 2 ^ 62) : MulOk z n := by
  have e1 : ((2 : Int) ^ 62) = 4611686018427387904 := by decide
  have e2 : ((2 : Int) ^ 63) = 9223372036854775808 := by decide
  rw [e1] at h1 h2
  refine ⟨?_, fun hn _ => ?_, fun hn _ => ?_⟩
  · rw [e2]; simp only [Bool.or_eq_false_iff, decide_eq_false_iff_not]; omega
  · have hp : 0 < n := by omega
    have hz : (z.length : Int) ≤ 1000000 := by
      have : z.length * 1 ≤ z.length * n.toNat := Nat.mul_le_mul_left _ (by omega)
      omega
    have e3 : ((2 : Int) ^ 63 - 1) = 9223372036854775807 := by decide
    rw [e3]
    intro hgt
    have h3 : (9223372036854775807 : Int) / n < z.length := hgt
    have h4 : (9223372036854775807 : Int) < z.length * n := by
      have := Int.lt_mul_of_ediv_lt hp h3
      exact this
    have h5 : (z.length : Int) * n ≤ 1000000 := by
      have e : ((z.length * n.toNat : Nat) : Int) = (z.length : Int) * n := by
        rw [Int.natCast_mul]; congr 1; omega
      omega
    omega
  · unfold Builtin.Str.tooLong sizeLine
    have e4 : (2 : Nat) ^ 24 = 16777216 := by decide
    exact decide_eq_false (by omega)
theorem o_mul : OpR X (binaryOp .Mult) fMul := by
  intro pins s σ H x y v u Q I rx ry h
  unfold fMul at h
  split at h
  · exact op_mul pins s σ H _ _ v u Q I rx ry ⟨_, _, rfl, rfl, h.1, h.2⟩
  · obtain ⟨h1, h2, h3, q⟩ := h
    obtain ⟨t, rfl⟩ := rx
    obtain ⟨t', rfl⟩ := ry
    exact SB.mul (mulOk_of h1 h2 h3) fun t' k => endS (I.tok _) q
  · split at h
    · rename_i h1
      exact op_rep pins s σ H _ _ v u Q I rx ry ⟨_, _, _, rfl, rfl, h1, h.1, h.2.1, h.2.2.1, h.2.2.2⟩
    · exact h.elim
  · exact h.elim
/-! comparisons -/
theorem o_lt : OpR X (compareOp .Lt) (fI0 fun i j => .bl (decide (i < j))) := op_lt.imp fI0_rI0
theorem o_le : OpR X (compareOp .LtE) (fI0 fun i j => .bl (decide (i ≤ j))) := op_le.imp fI0_rI0
theorem o_gt : OpR X (compareOp .Gt) (fI0 fun i j => .bl (decide (j < i))) := op_gt.imp fI0_rI0
theorem o_ge : OpR X (compareOp .GtE) (fI0 fun i j => .bl (decide (j ≤ i))) := op_ge.imp fI0_rI0

/-! equality of plain values; the deep one is a rule of its own -/
def fEq : R2 := fun x y H Q => (scal x y = true ∧ Q (.bl (decide (x = y))) H) ∨ ∃ d e, Is H x d ∧ Is H y e ∧ okD d ∧ okD e ∧ Q (.bl (eqD d e)) H
def fNe : R2 := fun x y H Q => (scal x y = true ∧ Q (.bl (!decide (x = y))) H) ∨ ∃ d e, Is H x d ∧ Is H y e ∧ okD d ∧ okD e ∧ Q (.bl (!eqD d e)) H
/-- is, beside None -/
def fIs : R2 := fun x y H Q => y = .non ∧ Q (.bl (decide (x = .non))) H
def fIsNot : R2 := fun x y H Q => y = .non ∧ Q (.bl (!decide (x = .non))) H
theorem o_eq (hu : X.A.units + 64 < cLine) : OpR X (compareOp .Eq) fEq := by
  intro pins s σ H x y v u Q I rx ry h
  rcases h with h | ⟨d, e, h1, h2, h3, h4, q⟩
  · exact op_eq pins s σ H x y v u Q I rx ry h
  · obtain ⟨as, r1⟩ := Is.reads I.hok h1 rx
    obtain ⟨bs, r2⟩ := Is.reads I.hok h2 ry
    exact eq_dataH r1 r2 h3 h4 hu (endB I q)
theorem o_ne (hu : X.A.units + 64 < cLine) : OpR X (compareOp .NotEq) fNe := by
  intro pins s σ H x y v u Q I rx ry h
  rcases h with h | ⟨d, e, h1, h2, h3, h4, q⟩
  · exact op_ne pins s σ H x y v u Q I rx ry h
  · obtain ⟨as, r1⟩ := Is.reads I.hok h1 rx
    obtain ⟨bs, r2⟩ := Is.reads I.hok h2 ry
    exact ne_dataH r1 r2 h3 h4 hu (endB I q)
theorem o_is : OpR X (compareOp .Is) fIs := op_isN
theorem o_isnot : OpR X (compareOp .IsNot) fIsNot := op_notN
/-- in: one text within another; a plain value among the plain items of a list or tuple -/
def fIn (neg : Bool) : R2 := fun x y H Q => match x, y with
  | .str i, .str j => Q (.bl (xor neg (Txt.contains j i))) H
  | x, .ref p => match seqR H p with
    | some xs => flatV x = true ∧ xs.all flatV = true ∧ Q (.bl (if neg then !inV x xs else inV x xs)) H
    | none => False
  | _, _ => False
theorem o_in : OpR X (compareOp .In) (fIn false) := by
  intro pins s σ H x y v u Q I rx ry h
  unfold fIn at h
  split at h
  · refine op_in_str pins s σ H _ _ v u Q I rx ry ⟨_, _, rfl, rfl, ?_⟩
    simpa [Txt.contains] using h
  · split at h
    · rename_i e
      exact op_in_seq pins s σ H _ _ v u Q I rx ry ⟨_, _, rfl, seqR_sq e, h.1, h.2.1, h.2.2⟩
    · exact h.elim
  · exact h.elim
/-! ### unary minus -/
def fNeg : V → Hp → VK → Prop := fun x H Q => match x with
  | .int i => Q (.int (-i)) H
  | _ => False
theorem o_neg : UnR X (unaryOp .USub) fNeg := fun pins s σ H x v Q I rx h => by
  unfold fNeg at h
  split at h
  · exact un_neg pins s σ H _ v Q I rx ⟨_, rfl, h⟩
  · exact h.elim
/-! ### items -/
def fIx (K : PySem.W.Frag) : R2 := fun x y H Q => match x, y with
  | .ref p, .int i => ∃ xs v, (SqL K H p xs ∨ SqT K H p xs) ∧ atI xs i = some v ∧ Q v H
  | .str z, .int i => z.length ≤ sizeLine ∧ (match atI z.cps.toList i with | some c => Q (.str ⟨#[c]⟩) H | none => False)
  | _, _ => False
theorem ix_any {K : PySem.W.Frag} (hK : X.K = K := by rfl) : IxR X (fIx K) := by
  subst hK
  intro value slice pins s σ H x y v u Q I rx ry h hs
  unfold fIx at h
  split at h
  · obtain ⟨xs, w', e, e', h⟩ := h
    rcases e with q | q
    · exact ix_list value slice pins s σ H _ _ v u Q I rx ry ⟨_, _, _, _, rfl, rfl, q, e', h⟩ hs
    · exact ix_tup value slice pins s σ H _ _ v u Q I rx ry ⟨_, _, _, _, rfl, rfl, q, e', h⟩ hs
  · obtain ⟨hz, h⟩ := h
    split at h
    · rename_i c e
      exact ix_str value slice pins s σ H _ _ v u Q I rx ry ⟨_, _, _, rfl, rfl, hz, e, h⟩ hs
    · exact h.elim
  · exact h.elim
/-! ### slices -/
def fSl (K : PySem.W.Frag) : V → Option Int → Option Int → Hp → VK → Prop := fun x lo hi H Q => match x with
  | .str z => z.length ≤ sizeLine ∧ Q (.str (Txt.slice z lo hi)) H
  | .ref a => (∃ xs, SqL K H a xs ∧ GetL H (cutV xs lo hi) Q) ∨
    (∃ xs, SqT K H a xs ∧ ¬ (HT.sIx xs.length 0 lo = 0 ∧ HT.sIx xs.length xs.length hi = xs.length) ∧ GetT H (cutV xs lo hi) Q)
  | _ => False
theorem sl_str : SlR X (fun x lo hi H Q => ∃ z, x = .str z ∧ z.length ≤ sizeLine ∧ Q (.str (Txt.slice z lo hi)) H) := by
  intro pins s σ H x v vl vu lo hi sl Q I rx hs pl pu h
  obtain ⟨z, rfl, hz, q⟩ := h
  obtain ⟨t, rfl⟩ := rx
  refine ⟨"str", _, PySem.F.slot_str_getitem.lookup, typeIs_str _ _ _, ?_⟩
  have fin : ∀ (l u : Option (Int × Tok)), l.map (·.1) = lo → u.map (·.1) = hi → s.heap.IsSlice sl l u none → wpAny (model X.prog X.w) X.A (getItem (.str z t) (.ref sl)) (EP X pins σ Q) X.xe s := fun l u el eu hs' => by
    subst el eu
    refine wpAny_getItem_str_slice hs' rfl ?_
    have q' : ∀ t' k, EP X pins σ Q (.str (Txt.slice z (l.map (·.1)) (u.map (·.1))) t') { s with toks := k } := fun t' k => endS (I.tok _) q
    exact post_val_or_str ⟨Nat.le_trans (Txt.slice_le z _ _) hz, fun t' k => q' t' k⟩
  cases pl with
  | none =>
    cases pu with
    | none => exact fin none none rfl rfl hs
    | int j u => exact fin none (some (j, u)) rfl rfl hs
  | int i t' =>
    cases pu with
    | none => exact fin (some (i, t')) none rfl rfl hs
    | int j u => exact fin (some (i, t')) (some (j, u)) rfl rfl hs
theorem sl_any {K : PySem.W.Frag} (hK : X.K = K := by rfl) : SlR X (fSl K) := by
  subst hK
  intro pins s σ H x v vl vu lo hi sl Q I rx hs pl pu h
  unfold fSl at h
  split at h
  · exact sl_str pins s σ H _ v vl vu lo hi sl Q I rx hs pl pu ⟨_, rfl, h.1, h.2⟩
  · rcases h with ⟨xs, e, h⟩ | ⟨xs, e, h⟩
    · exact sl_list pins s σ H _ v vl vu lo hi sl Q I rx hs pl pu ⟨_, _, rfl, e, h⟩
    · exact sl_tup pins s σ H _ v vl vu lo hi sl Q I rx hs pl pu ⟨_, _, rfl, e, h.1, fun p hp => h.2.new hp⟩
  · exact h.elim
/-! ### len and others -/
def fLen (K : PySem.W.Frag) : List V → Hp → VK → Prop := fun xs H Q => match xs with
  | [.str z] => z.length ≤ sizeLine ∧ Q (.int z.length) H
  | [.ref p] => ∃ ys, (SqL K H p ys ∨ SqT K H p ys) ∧ Q (.int ys.length) H
  | _ => False
theorem c_len {K : PySem.W.Frag} (hK : X.K = K := by rfl) : CallR X (.builtin "len") (fLen K) := by
  subst hK
  intro pins s σ H xs us Q I r h
  unfold fLen at h
  split at h
  · exact call_len_str pins s σ H _ us Q I r ⟨_, rfl, h.1, h.2⟩
  · obtain ⟨ys, e, h⟩ := h
    exact call_len_seq pins s σ H _ us Q I r ⟨_, _, rfl, e, h⟩
  · exact h.elim
def f2I (g : Int → Int → V) : List V → Hp → VK → Prop := fun xs H Q => match xs with
  | [.int i, .int j] => Q (g i j) H
  | _ => False
theorem c_max (hc : X.calm = true) : CallR X (.builtin "max") (f2I fun i j => .int (if j > i then j else i)) := (call_max2 hc).imp fun xs H Q h => by
  unfold f2I at h
  split at h
  · exact ⟨_, _, rfl, h⟩
  · exact h.elim
def fInt : List V → Hp → VK → Prop := fun xs H Q => match xs with
  | [.int i] => Q (.int i) H
  | [.bl b] => Q (.int (if b then 1 else 0)) H
  | _ => False
theorem c_int : CallR X (.type "int") fInt := call_int1.imp fun xs H Q h => by
  unfold fInt at h
  split at h
  · exact .inl ⟨_, rfl, h⟩
  · exact .inr ⟨_, rfl, h⟩
  · exact h.elim
def fList : List V → Hp → VK → Prop := fun xs H Q => match xs with
  | [.ref p] => (match seqR H p with | some ys => GetL H ys Q | none => False)
  | _ => False
theorem c_list : CallR X (.type "list") fList := call_list_of.imp fun xs H Q h => by
  unfold fList at h
  split at h
  · split at h
    · rename_i e; exact ⟨_, _, rfl, seqR_sq e, h⟩
    · exact h.elim
  · exact h.elim
def fTuple : List V → Hp → VK → Prop := fun xs H Q => match xs with
  | [.ref p] => (match seqR H p with | some ys => GetT H ys Q | none => False)
  | _ => False
theorem tup_back {H : Hp} {p : Addr} {ys : List V} (h : tupR H p = some ys) : H p = some (.tup ys) := by
  unfold tupR at h
  split at h
  · rename_i e; cases h; exact e
  · cases h
theorem c_tuple : CallR X (.type "tuple") fTuple := call_tuple_of.imp fun xs H Q h => by
  unfold fTuple at h
  split at h
  · split at h
    · rename_i ys e
      refine ⟨_, ys, rfl, ?_⟩
      unfold seqR at e
      split at e
      · rename_i e'; cases e
        exact .inl ⟨lstR_sq e', fun l hl => h.new hl⟩
      · exact .inr ⟨tupR_sq e, h.old (tup_back e)⟩
    · exact h.elim
  · exact h.elim
/-! ### truth -/
/-! ### methods of lists -/
def fAppend : V → List V → Hp → VK → Prop := fun x vs H Q => match x, vs with
  | .ref l, [y] => (match H l with | some (.lst xs) => xs.length < sizeLine ∧ Q .non (upd H l (.lst (xs ++ [y]))) | _ => False)
  | _, _ => False
theorem m_append1 : MtR X "list.append" fAppend := fun pins s σ H x xs v us Q I rx rs h => by
  unfold fAppend at h
  split at h
  · split at h
    · rename_i e
      exact mt_append pins s σ H _ _ v us Q I rx rs ⟨_, _, _, rfl, rfl, e, h.1, h.2⟩
    · exact h.elim
  · exact h.elim
/-! ### methods of texts -/
theorem strsAre_of : ∀ {ys : List Str} {us : List Value}, Vals (ys.map V.str) us → StrsAre us ys
  | [], _, .nil => .nil
  | y :: ys, _, .cons r t => by
    obtain ⟨k, rfl⟩ := r
    exact .cons y k (strsAre_of t)
/-- the texts of a list of texts -/
def strs? : List V → Option (List Str)
  | [] => some []
  | .str z :: r => (strs? r).map (z :: ·)
  | _ => none
theorem strs?_map : ∀ ys : List Str, strs? (ys.map V.str) = some ys
  | [] => rfl
  | y :: ys => by simp only [List.map_cons, strs?, strs?_map ys, Option.map_some]
theorem strs?_of : ∀ {xs : List V} {ys : List Str}, strs? xs = some ys → xs = ys.map V.str
  | [], _, h => by cases h; rfl
  | .str z :: r, ys, h => by
    simp only [strs?] at h
    cases e : strs? r with
    | none => rw [e] at h; cases h
    | some q => rw [e] at h; cases h; rw [strs?_of e]; rfl
  | .non :: _, _, h => by cases h
  | .bl _ :: _, _, h => by cases h
  | .int _ :: _, _, h => by cases h
  | .byt _ :: _, _, h => by cases h
  | .flt _ :: _, _, h => by cases h
  | .ref _ :: _, _, h => by cases h
  | .ty _ :: _, _, h => by cases h
def fJoin : V → List V → Hp → VK → Prop := fun x vs H Q => match x, vs with
  | .str z, [.ref p] => (match lstR H p with
    | some xs => (match strs? xs with
      | some ys => (ys.map (·.length)).sum + ys.length * z.length ≤ 16777216 ∧ Q (.str (Txt.join z ys)) H
      | none => False)
    | none => False)
  | _, _ => False
theorem m_join1 : MtR X "str.join" fJoin := fun pins s σ H x xs v us Q I rx rs h => by
  unfold fJoin at h
  split at h
  · rename_i z p
    split at h
    · rename_i ws e
      split at h
      · rename_i ys e2
        obtain ⟨t, rfl⟩ := rx
        obtain ⟨u, rfl, ru⟩ := vals1 rs
        cases ru
        obtain ⟨its, r', pl, hz⟩ := I.list (lstR_sq e)
        rw [strs?_of e2] at r'
        exact join_list pl.isList (strsAre_of (by simpa using r')) h.1 fun t' k => endS (I.tok _) h.2
      · exact h.elim
    · exact h.elim
  · exact h.elim
end
end L2

set_option Elab.async false
set_option linter.all false
set_option maxRecDepth 100000
namespace L2
open PySem PySem.Spec PyProof.Rows

/-! ### isinstance, for values of Python's own kinds -/
def tyN (H : Hp) : V → Option String
  | .non => some "NoneType"
  | .bl _ => some "bool"
  | .int _ => some "int"
  | .str _ => some "str"
  | .ref a => match H a with
    | some (.lst _) => some "list"
    | some (.frz _ (.lst _)) => some "list"
    | some (.tup _) => some "tuple"
    | _ => none
  | _ => none
def subB (t T : String) : Bool := t == T || (t == "bool" && T == "int")
def tys? : List V → Option (List String)
  | [] => some []
  | .ty T :: r => (tys? r).map (T :: ·)
  | _ => none
def knownT (T : String) : Bool := ["bool", "int", "str", "list", "tuple"].contains T
def fIsi : List V → Hp → VK → Prop := fun xs H Q => match xs with
  | [x, .ty T] => (match tyN H x with
    | some t => knownT T = true ∧ Q (.bl (subB t T)) H
    | none => False)
  | [x, .ref p] => (match tyN H x, tupR H p with
    | some t, some ts => (match tys? ts with
      | some Ts => Ts.all knownT = true ∧ Q (.bl (Ts.any (subB t))) H
      | none => False)
    | _, _ => False)
  | _ => False
section
variable {X : Cx}
/-! ### all, any of a list of truths -/
def bls? : List V → Option (List Bool)
  | [] => some []
  | .bl b :: r => (bls? r).map (b :: ·)
  | _ => none
def fAll (f : List Bool → Bool) : List V → Hp → VK → Prop := fun xs H Q => match xs with
  | [.ref p] => (match lstR H p with
    | some ys => (match bls? ys with | some bs => Q (.bl (f bs)) H | none => False)
    | none => False)
  | _ => False
end
/-! ### rows of known values -/
def Its (xs : List V) : It := ⟨fun i _ => i < xs.length, fun i H x H' => H' = H ∧ xs[i]? = some x, fun i _ => i = xs.length⟩
def chs (z : Str) : List V := z.cps.toList.map fun c => V.str ⟨#[c]⟩
theorem turn_walks {P : Program} {w : World} {K : PySem.W.Frag} {tg : Expr} {it : Addr} {n : Nat} {Pv : Nat → Value → Prop} {St : Nat → Heap → Prop} {xs : List V}
    (hW : ∀ A : Around, A.handled = none → Walks P w A it [it] [it] n Pv St) (hn : xs.length = n) (hx : ∀ i u, Pv i u → ∃ x, xs[i]? = some x ∧ RelV x u)
    (hobj : ∀ i h, St i h → ∃ o ty vs, h.get? it = some o ∧ o.cls = .type ty ∧ o.data = .fields vs ∧ ["enumerate", "zip", "dict_itemiterator", "dict_reverseitemiterator", "odict_iterator", "itertools.zip_longest", "itertools.pairwise"].contains ty = false)
    (hself : ∀ (A : Around) (i : Nat) (s : Shared) (Q : Value → Shared → Prop) (E : Value → Shared → Prop), St i s.heap → Q (.ref it) s → wpAny (model P w) A (pyIter (.ref it)) Q E s) :
    Turn P w K tg (Its xs) [it] it St where
  mem := by simp
  obj := fun i h st b hb => by
    have e : b = it := by simpa using hb
    subst e
    obtain ⟨o, ty, vs, ho, _, hd, _⟩ := hobj i h st
    exact ⟨o, ho, fun v z => by rw [hd] at z; cases z⟩
  keep := fun i h h' st k => (hW {} rfl).frame i h h' st k
  item := by
    intro X hP hw hK hc i pins s σ H E I hf st hg
    subst hP hw hK
    obtain ⟨f0, f1, f2, f3, f4, f5⟩ := hf it (by simp)
    have hlt : i < n := by rw [← hn]; exact hg
    refine (hW X.A (I.ok.hd hc)).item i s _ E hlt st fun v h' tk pv st' k => ?_
    obtain ⟨x, ex, rx⟩ := hx i v pv
    have I1 : Inv X pins σ H { s with heap := h', toks := tk } := I.turned (fun b o hb e => k b o (by simpa using hb) e) f0 f1 f3 f4 f5
    obtain ⟨o, ty, vs, ho, hcl, hd, hnn⟩ := hobj _ _ st'
    exact ⟨v, rfl, go_of (s := { s with heap := h', toks := tk }) ho hcl hd hnn ⟨x, H, I1, rx, ⟨rfl, ex⟩, st', fun b hb => (hf b hb).1⟩⟩
  done := by
    intro X hP hw hK hc i pins s σ H E I hf st hg
    subst hP hw hK
    obtain ⟨f0, f1, f2, f3, f4, f5⟩ := hf it (by simp)
    have e : i = n := by rw [← hn]; exact hg
    subst e
    exact (hW X.A (I.ok.hd hc)).done s _ E st fun h' tk k => ⟨rfl, I.turned (fun b o hb e => k b o (by simpa using hb) e) f0 f1 f3 f4 f5⟩
  self := hself
section
variable {X : Cx} {tg : Expr}
/-- a list, a tuple, a text, walked -/
def anyIt (K : PySem.W.Frag) (R : It → Hp → Prop) : V → Hp → Prop := fun x H1 => match x with
  | .str z => R (Its (chs z)) H1
  | .ref a => (∃ xs, SqL K H1 a xs ∧ R (Itl K a) H1) ∨ (∃ xs, SqT K H1 a xs ∧ R (Itt K a) H1)
  | _ => False
def iAny (K : PySem.W.Frag) (te : TE) : TI := fun σ H R => te σ H (anyIt K R)
theorem sign_rel {z : Str} {i : Nat} {u : Value} (h : SignAt z i u) : ∃ x, (chs z)[i]? = some x ∧ RelV x u := by
  obtain ⟨c, k, hc, rfl⟩ := h
  refine ⟨.str ⟨#[c]⟩, ?_, ⟨k, rfl⟩⟩
  unfold chs
  rw [List.getElem?_map, Array.getElem?_toList, hc]
  rfl
theorem pi_any {K : PySem.W.Frag} {l : Expr} {tl : TE} (hl : PE X l tl) (hK : X.K = K := by rfl) : PI X tg l (iAny K tl) := by
  subst hK
  intro pins s σ H R I h
  refine thn (hl pins s σ H _ I h) fun v s1 ⟨x, H1, I1, r1, q1⟩ => ?_
  have fresh1 : ∀ b ∈ [s1.heap.objs.size], FpOk X pins H1 b := fun b hb => by
    have e : b = s1.heap.objs.size := by simpa using hb
    subst e
    exact I1.fpOk (Nat.le_refl _) (I1.hok.fresh (Nat.le_refl _))
  have kept1 : ∀ ob : Obj, Inv X pins σ H1 { s1 with heap := s1.heap.push ob } := fun ob => I1.kept (t' := s1.toks) fun b o e => Heap.get?_push_of_some _ e
  unfold anyIt at q1
  split at q1
  · rename_i z
    obtain ⟨t, rfl⟩ := r1
    have hlen : (chs z).length = z.cps.size := by unfold chs; simp
    cases ha : z.cps.all (· < 128)
    · refine wpAny_pyIter_wide ha ⟨s1.heap.objs.size, [s1.heap.objs.size], _, _, H1, rfl, kept1 _, turn_walks (fun A hA => Walks.strWide hA s1.heap.objs.size z t) hlen (fun i u hu => sign_rel hu) ?_ (fun A i s Q E st q => wpAny_pyIter_striter_wide st q), ⟨_, Heap.get?_push_size _ rfl, rfl, rfl⟩, fresh1, q1⟩
      intro i h st
      obtain ⟨o, ho, hc, hd⟩ := st
      exact ⟨o, _, _, ho, hc, hd, by decide⟩
    · refine wpAny_pyIter_ascii ha ⟨s1.heap.objs.size, [s1.heap.objs.size], _, _, H1, rfl, kept1 _, turn_walks (fun A hA => Walks.strAscii hA s1.heap.objs.size z t) hlen (fun i u hu => sign_rel hu) ?_ (fun A i s Q E st q => wpAny_pyIter_striter_ascii st q), ⟨_, Heap.get?_push_size _ rfl, rfl, rfl⟩, fresh1, q1⟩
      intro i h st
      obtain ⟨o, ho, hc, hd⟩ := st
      exact ⟨o, _, _, ho, hc, hd, by decide⟩
  · rename_i a
    cases r1
    rcases q1 with ⟨xs, e, q1⟩ | ⟨xs, e, q1⟩
    · obtain ⟨its, rv, p, hz⟩ := I1.list e
      exact wpAny_pyIter_list p.isList ⟨s1.heap.objs.size, [s1.heap.objs.size], _, _, H1, rfl, kept1 _, turn_list a _, ⟨_, Heap.get?_push_size _ rfl, rfl, rfl⟩, fresh1, q1⟩
    · obtain ⟨its, rv, p, hz⟩ := I1.tuple e
      exact wpAny_pyIter_tuple (show s1.heap.IsTuple a its.toArray from p) ⟨s1.heap.objs.size, [s1.heap.objs.size], _, _, H1, rfl, kept1 _, turn_tuple a _, ⟨_, Heap.get?_push_size _ rfl, rfl, rfl⟩, fresh1, q1⟩
  · exact q1.elim
end
/-- a comprehension's turns, by an invariant over the turn and the items so far -/
theorem comp_of {J : It} {n : Nat} {val : Nat → V} {p : Addr} {g : TG} {tc : TT} {te : TE} {Q : VK} {σ0 : St} {H0 : Hp} (Pv : Nat → List V → St → Hp → Prop)
    (hgo : ∀ i acc σ H, i < n → Pv i acc σ H → J.go i H) (hst : ∀ acc σ H, Pv n acc σ H → J.stop n H) (hy : ∀ i acc σ H x H', i < n → Pv i acc σ H → J.yld i H x H' → H' = H ∧ x = val i)
    (h0 : Pv 0 [] σ0 H0) (hp : ∀ i acc σ H, Pv i acc σ H → H p = some (.lst acc) ∧ acc.length ≤ i) (hz : n ≤ sizeLine)
    (hs : ∀ i acc σ H, i < n → Pv i acc σ H → g (val i) σ H fun σ3 H3 => tc σ3 H3 fun b H4 =>
      if b = true then te σ3 H4 fun v H5 => H5 p = some (.lst acc) ∧ Pv (i + 1) (acc ++ [v]) σ3 (upd H5 p (.lst (acc ++ [v]))) else Pv (i + 1) acc σ3 H4)
    (hd : ∀ acc σ H, Pv n acc σ H → Q (.ref p) H) :
    CompRuns J p g tc te Q σ0 H0 := by
  refine ⟨fun i m acc σ H => m = n - i ∧ i ≤ n ∧ Pv i acc σ H, ⟨n, by simp, Nat.zero_le _, h0⟩, fun i m acc σ' H' w => ?_⟩
  obtain ⟨rfl, hi, q⟩ := w
  obtain ⟨q1, q2⟩ := hp i acc σ' H' q
  refine ⟨q1, ?_⟩
  by_cases hlt : i < n
  · refine .inr ⟨hgo i acc σ' H' hlt q, by omega, Pv (i + 1), fun a' σ3 H3 k => ⟨n - (i + 1), by omega, rfl, hlt, k⟩, fun x H2 y => ?_⟩
    obtain ⟨rfl, rfl⟩ := hy i acc σ' H' x H2 hlt q y
    exact hs i acc σ' _ hlt q
  · have e : i = n := by omega
    subst e
    exact .inl ⟨hst acc σ' H' q, hd acc σ' H' q⟩
/-- .. over a range -/
theorem comp_range {lo : Int} {n : Nat} {p : Addr} {g : TG} {tc : TT} {te : TE} {Q : VK} {σ0 : St} {H0 : Hp} (Pv : Nat → List V → St → Hp → Prop)
    (h0 : Pv 0 [] σ0 H0) (hp : ∀ i acc σ H, Pv i acc σ H → H p = some (.lst acc) ∧ acc.length ≤ i) (hz : n ≤ sizeLine)
    (hs : ∀ i acc σ H, i < n → Pv i acc σ H → g (.int (lo + i)) σ H fun σ3 H3 => tc σ3 H3 fun b H4 =>
      if b = true then te σ3 H4 fun v H5 => H5 p = some (.lst acc) ∧ Pv (i + 1) (acc ++ [v]) σ3 (upd H5 p (.lst (acc ++ [v]))) else Pv (i + 1) acc σ3 H4)
    (hd : ∀ acc σ H, Pv n acc σ H → Q (.ref p) H) : CompRuns (Itr lo n) p g tc te Q σ0 H0 :=
  comp_of (J := Itr lo n) (val := fun i => .int (lo + i)) Pv (fun _ _ _ _ h _ => h) (fun _ _ _ _ => Nat.le_refl n) (fun _ _ _ _ _ _ _ _ y => y) h0 hp hz hs hd
/-- .. over a list that stays as it is -/
theorem comp_list {K : PySem.W.Frag} {a : Addr} {xs : List V} {p : Addr} {g : TG} {tc : TT} {te : TE} {Q : VK} {σ0 : St} {H0 : Hp} (Pv : Nat → List V → St → Hp → Prop)
    (hl : ∀ i acc σ H, i ≤ xs.length → Pv i acc σ H → SqL K H a xs)
    (h0 : Pv 0 [] σ0 H0) (hp : ∀ i acc σ H, Pv i acc σ H → H p = some (.lst acc) ∧ acc.length ≤ i) (hz : xs.length ≤ sizeLine)
    (hs : ∀ i acc σ H, i < xs.length → Pv i acc σ H → g (xs.getD i .non) σ H fun σ3 H3 => tc σ3 H3 fun b H4 =>
      if b = true then te σ3 H4 fun v H5 => H5 p = some (.lst acc) ∧ Pv (i + 1) (acc ++ [v]) σ3 (upd H5 p (.lst (acc ++ [v]))) else Pv (i + 1) acc σ3 H4)
    (hd : ∀ acc σ H, Pv xs.length acc σ H → Q (.ref p) H) : CompRuns (Itl K a) p g tc te Q σ0 H0 :=
  comp_of (J := Itl K a) (n := xs.length) (val := fun i => xs.getD i .non) Pv
    (fun i acc σ H hi q => ⟨xs, xs[i], (hl i acc σ H (Nat.le_of_lt hi) q), by simp [hi]⟩) (fun acc σ H q => ⟨xs, (hl _ acc σ H (Nat.le_refl _) q), Nat.le_refl _⟩)
    (fun i acc σ H x _ hi q y => ⟨y.1, by have := y.2 xs (hl i acc σ H (Nat.le_of_lt hi) q); rw [List.getD_eq_getElem?_getD, this]; rfl⟩) h0 hp hz hs hd

/-! ### methods of Python's own values -/
section
variable {X : Cx} {o e : Expr} {es : List Expr} {to : TE} {t : TA} {name : Str} {apos cpos : Pos} {T id : String} {r : V → List V → Hp → VK → Prop}
theorem pe_bmK {K : PySem.W.Frag} (pa : PlainAttrs T) (slot : Slot T name id) (hty : typeOf (.builtin id) = pure (.type "method_descriptor")) (hm : MtR X id r) (ho : PE X o to) (ha : PA X (e :: es) t) (hK : X.K = K := by rfl)
    (hb : attributeBase o name X.env (eval o X.env) = eval o X.env := by rfl)
    (hf : ((backTo cpos (starEach (e :: es) X.env)).all (fun x => !x.1) && (backToKw cpos (keywordEach [] X.env)).all (fun x => x.1.isSome) && decide ((e :: es).length + ([] : List Keyword).length + (if ([] : List Keyword).isEmpty then 0 else 1) < 30)) = true := by rfl)
    (hl : (apos.endLine == cpos.line) = true := by rfl) (he : starEach (e :: es) X.env = (false, eval e X.env) :: starEach es X.env := by rfl) (hpl : (backTo cpos (starEach es X.env)).any (·.1) = false := by rfl) : PE X (.Call (.Attribute o name apos) (e :: es) [] cpos) (tBM K T r to t) := by
  subst hK
  exact pe_bm pa slot hty hm ho ha hb hf hl he hpl
end
/-! ### a store into a list -/
def fSet : V → V → V → Hp → (Hp → Prop) → Prop := fun o i v H Q => match o, i with
  | .ref p, .int k => (match H p with
    | some (.lst xs) => (match ixN xs.length k with | some j => Q (upd H p (.lst (xs.set j v))) | none => False)
    | _ => False)
  | _, _ => False
theorem set_l {X : Cx} : PSet X fSet := fun pins s σ H o i v ov iv u Q I ro ri rv h => by
  unfold fSet at h
  split at h
  · split at h
    · rename_i xs e
      split at h
      · rename_i j ej
        exact set_list pins s σ H _ _ v ov iv u Q I ro ri rv ⟨_, _, _, _, rfl, rfl, e, ej, h⟩
      · exact h.elim
    · exact h.elim
  · exact h.elim
/-! ### a def of the text, known by its promise -/
structure Dn (P : Program) (w : World) (K : PySem.W.Frag) (mg : Str → Option Value) (base : Heap) (x : Str) (k : Nat) (ps : List Str) (sp : Sp) : Prop where
  ex : ∃ (f : Addr) (fd : FuncData), mg x = some (.ref f) ∧ PySem.W.keepIn K (.ref f) = true ∧ Binds K fd ps [] ∧ FnOk P w K mg base CX0 k f fd ps sp
theorem pe_callD {X : Cx} {x : Str} {k : Nat} {ps : List Str} {sp : Sp} {e : Expr} {es : List Expr} {t : TA} {p pos : Pos} (D : Dn X.prog X.w X.K X.mg X.base x k ps sp) (hr : Room k X.A) (hg : Gl X x) (ha : PA X (e :: es) t)
    (hdb : (x == ("__debug__" : Str)) = false := by decide) (he : starEach (e :: es) X.env = (false, eval e X.env) :: starEach es X.env := by rfl) (hpl : (backTo pos (starEach es X.env)).any (·.1) = false := by rfl) :
    PE X (.Call (.Name x p) (e :: es) [] pos) (tCall sp [] E0 t) := by
  obtain ⟨f, fd, h1, h2, h3, h4⟩ := D.ex
  exact pe_call h4 hr hg h1 h2 h3 .nil pass0 ha hdb he hpl
end L2

set_option linter.all false
set_option maxRecDepth 100000
namespace L2
open PySem
open Sem (wp)
open AutoSeq1 (wpAny_loadPart')
section
variable {prog : Program} {w : World} {A : Around} {E : Value → Shared → Prop} {s : Shared}
theorem nextT_item {it t : Addr} {i : Nat} {items : Array Value} {x : Value} {Q : Value → Shared → Prop} (hit : s.heap.IsTupleIter it t i) (ht : s.heap.IsTuple t items) (hx : items[i]? = some x)
    (hQ : ∀ h', h'.IsTupleIter it t (i + 1) → Heap.SameBut it s.heap h' → Q x { s with heap := h' }) : wpAny (model prog w) A (Builtin.SmallTypes.nextOf (.ref it)) Q E s := by
  obtain ⟨ob, hob, hcl, hdt⟩ := id hit
  obtain ⟨ot, hot, _, nt, hdot⟩ := ht
  unfold Builtin.SmallTypes.nextOf
  refine wpAny_bind (wpAny_callSpecial?_slot (name := Str.ofString "__next__") hit.typeIs F.slot_tuple_iterator_next (wpAny_call_entry F.slot_tuple_iterator_next hit.typeIs F.entry_tuple_iterator_next ?_ (F.args_tuple_iterator_next_1 _)))
  show wpAny _ _ (field (.ref it) 0 >>= _) _ _ s
  refine wpAny_bind (wpAny_field hob hdt (x := .ref t) rfl ?_)
  have nn : ¬ ((Value.ref t == Value.none) = true) := Bool.false_ne_true
  show wpAny _ _ (if (Value.ref t == Value.none) = true then _ else _) _ _ s
  rw [if_neg nn]
  show wpAny _ _ (field (.ref it) 1 >>= _) _ _ s
  refine wpAny_bind (wpAny_field hob hdt (x := .int i 0) rfl ?_)
  show wpAny _ _ (seqItems? (.ref t) >>= _) _ _ s
  refine wpAny_bind (wpAny_seqItems hot hdot ?_)
  simp only [Int.toNat_natCast, hx]
  refine wpAny_bind (wpAny_setField hob hdt (by simp) (wpAny_pure ⟨x, rfl, wpAny_pure (hQ _ ?_ (Heap.SameBut.update ..))⟩))
  exact ⟨_, Heap.get?_update_self _ hob (Obj.isFreed_of_fields (Obj.data_mapFields hdt _)), (Obj.cls_mapFields ..).trans hcl, by rw [Obj.data_mapFields hdt]; simp [rawInt]⟩
theorem nextT_end {it t : Addr} {i : Nat} {items : Array Value} {Q : Value → Shared → Prop} (hh : A.handled = none) (hit : s.heap.IsTupleIter it t i) (ht : s.heap.IsTuple t items) (hx : items[i]? = none)
    (hE : ∀ h' e, Heap.ExtBut it s.heap h' → (∃ o, h'.get? e = some o ∧ o.cls = .type "StopIteration") → E (.ref e) { s with heap := h' }) : wpAny (model prog w) A (Builtin.SmallTypes.nextOf (.ref it)) Q E s := by
  obtain ⟨ob, hob, hcl, hdt⟩ := id hit
  obtain ⟨ot, hot, _, nt, hdot⟩ := ht
  unfold Builtin.SmallTypes.nextOf
  refine wpAny_bind (wpAny_callSpecial?_slot (name := Str.ofString "__next__") hit.typeIs F.slot_tuple_iterator_next (wpAny_call_entry F.slot_tuple_iterator_next hit.typeIs F.entry_tuple_iterator_next ?_ (F.args_tuple_iterator_next_1 _)))
  show wpAny _ _ (field (.ref it) 0 >>= _) _ _ s
  refine wpAny_bind (wpAny_field hob hdt (x := .ref t) rfl ?_)
  have nn : ¬ ((Value.ref t == Value.none) = true) := Bool.false_ne_true
  show wpAny _ _ (if (Value.ref t == Value.none) = true then _ else _) _ _ s
  rw [if_neg nn]
  show wpAny _ _ (field (.ref it) 1 >>= _) _ _ s
  refine wpAny_bind (wpAny_field hob hdt (x := .int i 0) rfl ?_)
  show wpAny _ _ (seqItems? (.ref t) >>= _) _ _ s
  refine wpAny_bind (wpAny_seqItems hot hdot ?_)
  simp only [Int.toNat_natCast, hx]
  refine wpAny_bind (wpAny_rule (wpAny_bind (wpAny_setField hob hdt (by simp) ?_)))
  show wpAny _ _ (newExc (.type "StopIteration") [] >>= _) _ _ _
  refine wpAny_bind ?_
  simp only [newExc, newTuple]
  refine wpAny_bind (wpAny_newObj_type ?_ (by size_fits))
  refine wpAny_bind (m := firstArgMember _ _) (wpAny_of_eq (a := Value.none) (by first | rfl | (simp only [firstArgMember]; rfl)) (wpAny_newObj_type ?_ (by size_fits)))
  simp only [raiseNew]
  refine wpAny_bind (wpAny_handled ?_)
  first | rw [show A.in1.handled = none from hh] | rw [hh]
  exact wpAny_bind (wpAny_pure (wpAny_throw (hE _ _ (((Heap.SameBut.update ..).extBut.push _).push _) ⟨_, Heap.get?_push_size _ rfl, rfl⟩)))
end
theorem drawsTuple {prog : Program} {w : World} {A : Around} (hh : A.handled = none) (it t : Addr) (hne : t ≠ it) (items : Array Value) :
    Draws prog w A it [it, t] items.size (fun i v => items[i]? = some v) (fun i h => h.IsTupleIter it t i ∧ h.IsTuple t items) where
  live := fun _ _ st => let ⟨o, ho, _⟩ := st.1; ⟨o, ho⟩
  frame := fun _ _ _ st hk => ⟨st.1.at fun o e => hk it (by simp) o e, let ⟨o, ho, r⟩ := st.2; ⟨o, hk t (by simp) o ho, r⟩⟩
  item := fun i s Q E hi st hQ => by
    refine nextT_item st.1 st.2 (x := items[i]) (by simp [hi]) fun h' hit' hs' => ?_
    exact hQ _ h' s.toks (by simp [hi]) ⟨hit', st.2.extBut hs'.extBut hne⟩ hs'
  done := fun s Q E st hE => nextT_end hh st.1 st.2 (by simp) hE
set_option maxHeartbeats 4000000 in
set_option maxHeartbeats 4000000 in
section
variable {prog : Program} {w : World} {A : Around} {E : Value → Shared → Prop} {s : Shared}
set_option maxHeartbeats 4000000 in
end
end L2

set_option Elab.async false
set_option linter.all false
set_option maxRecDepth 100000
namespace L2
open PySem PySem.Spec PyProof.Rows
/-! ### enumerate -/
section
variable {X : Cx} {pins : List (Addr × Obj)} {σ : St} {H : Hp} {s : Shared} {h' : Heap}
theorem Inv.turnedL {t' : Nat} {ch : List Addr} (I : Inv X pins σ H s) (k : ∀ b u, b ∉ ch → s.heap.get? b = some u → h'.get? b = some u) (hf : ∀ b ∈ ch, FpOk X pins H b) : Inv X pins σ H { s with heap := h', toks := t' } := by
  have nch : ∀ b u, H b = some u → b ∉ ch := fun b u e z => by rw [(hf b z).1] at e; cases e
  refine I.step (g' := s.gens) (d' := s.drawn) (ch := ch) (fun b hb => ⟨(hf b hb).2.2.2.1, (hf b hb).2.1, (hf b hb).2.2.2.2.1, (hf b hb).2.2.2.2.2⟩)
    (fun b u _ _ hc e _ => k b u hc e) (fun b u _ _ hc e _ => ⟨u.slots, k b u hc e⟩) (fun _ _ _ _ n => n)
    (fun b u hc e => ⟨u, k b u hc e⟩) (fun _ _ e => e) (fun _ _ _ e => e) (fun b ps e => ⟨#[], by rw [e]; simp⟩) (fun m hm => ?_) (fun b u e => ?_) I.bare
  · obtain ⟨ob, es, ep, ho, r⟩ := hm
    exact ⟨ob, es, ep, k _ ob (fun z => (hf _ z).2.1 rfl) ho, r⟩
  · refine (I.hok b u e).stay (fun c v hc q => k c v ?_ q) (fun _ q => q) fun _ _ q => q
    rcases hc with z | z
    · rw [z]; exact nch b u e
    · exact nch c _ z
theorem Inv.turnedNew {t' : Nat} {ch : List Addr} {T : Addr} {o : HO} (I : Inv X pins σ H s) (hT : s.heap.objs.size ≤ T)
    (k : ∀ b u, b ∉ ch → s.heap.get? b = some u → h'.get? b = some u) (hf : ∀ b ∈ ch, FpOk X pins H b) (new : ObjOk X.prog X.w (upd H T o) h' T o) :
    Inv X pins σ (upd H T o) { s with heap := h', toks := t' } := by
  have hn : H T = none := I.hok.fresh hT
  have nch : ∀ b u, H b = some u → b ∉ ch := fun b u e z => by rw [(hf b z).1] at e; cases e
  refine I.step (g' := s.gens) (d' := s.drawn) (ch := ch) (fun b hb => ⟨(hf b hb).2.2.2.1, (hf b hb).2.1, (hf b hb).2.2.2.2.1, (hf b hb).2.2.2.2.2⟩)
    (fun b u _ _ hc e _ => k b u hc e) (fun b u _ _ hc e _ => ⟨u.slots, k b u hc e⟩) (fun b u _ e n => by rw [upd_ne (Nat.ne_of_lt (Nat.lt_of_lt_of_le (Heap.lt_size e) hT))]; exact n)
    (fun b u hc e => ⟨u, k b u hc e⟩) (fun b xs e => by rw [upd_ne (ne_of_none e hn)]; exact e) (fun b u v e => by rw [upd_ne (ne_of_none e hn)]; exact e) (fun b ps e => ⟨#[], by rw [upd_ne (ne_of_none e hn), e]; simp⟩)
    (fun m hm => ?_) (fun b u e => ?_) I.bare
  · obtain ⟨ob, es, ep, ho, r⟩ := hm
    exact ⟨ob, es, ep, k _ ob (fun z => (hf _ z).2.1 rfl) ho, r⟩
  · by_cases hb : b = T
    · subst hb; rw [upd_same] at e; cases e; exact new
    · rw [upd_ne hb] at e
      refine (I.hok b u e).stay (fun c v hc q => k c v ?_ q) (fun c q => by rw [upd_ne (ne_of_none q hn)]; exact q) fun c xs q => by rw [upd_ne (ne_of_none q hn)]; exact q
      rcases hc with z | z
      · rw [z]; exact nch b u e
      · exact nch c _ z
end
/-- an iterator whose items are known -/
def DrawAt (P : Program) (w : World) (A : Around) (it : Addr) (xs : List V) (St0 : Nat → Heap → Prop) (H : Hp) (i : Nat) (h : Heap) : Prop :=
  ∃ (fp : List Addr) (Pv : Nat → Value → Prop) (St : Nat → Heap → Prop), Draws P w A it fp xs.length Pv St ∧ it ∈ fp ∧ (∀ b ∈ fp, b = it ∨ H b ≠ none) ∧ St i h ∧ (∀ j x, Pv j x → ∃ v, xs[j]? = some v ∧ RelV v x) ∧ ∀ j h', St j h' → St0 j h'
section
variable {X : Cx}
end
/-! enumerate(.., start=n) -/
theorem drawTup {X : Cx} {pins : List (Addr × Obj)} {σ : St} {H : Hp} {s : Shared} {it a : Addr} {xs : List V} {i : Nat} (hc : X.calm = true) (I : Inv X pins σ H s) (h : SqT X.K H a xs) (hn : H it = none) (ha : H a ≠ none) (st : s.heap.IsTupleIter it a i) :
    DrawAt X.prog X.w X.A.in1 it xs (fun i h => h.IsTupleIter it a i) H i s.heap := by
  obtain ⟨its, rv, pl, hz⟩ := I.tuple h
  have hl : its.toArray.size = xs.length := by rw [List.size_toArray]; exact rv.length.symm
  have hne : a ≠ it := fun z => ha (z ▸ hn)
  refine ⟨[it, a], _, _, hl ▸ drawsTuple (A := X.A.in1) (show X.A.in1.handled = none from I.ok.hd hc) it a hne its.toArray, by simp, fun b hb => ?_, ⟨st, pl⟩, fun j x hx => ?_, fun _ _ q => q.1⟩
  · rcases List.mem_cons.mp hb with z | z
    · exact .inl z
    · have z' : b = a := by simpa using z
      rw [z']; exact .inr ha
  · have hx' : its[j]? = some x := by simpa using hx
    have hj : j < xs.length := by rw [rv.length]; exact (List.getElem?_eq_some_iff.mp hx').1
    obtain ⟨u, hu, ru⟩ := rv.get (i := j) (x := xs[j]) (by simp [hj])
    rw [hx'] at hu
    cases hu
    exact ⟨xs[j], by simp [hj], ru⟩
section
variable {X : Cx}
end
end L2

set_option Elab.async false
set_option linter.all false
set_option maxRecDepth 100000
namespace L2
open PySem PySem.Spec PyProof.Rows
/-! ### the readings, step by step, from the outside -/
section
variable {σ : St} {H : Hp} {D : Ends} {Q : VK} {QB : Bool → Hp → Prop} {QA : List V → Hp → Prop}
theorem i_seq {t u : TS} (h : t { D with nx := u D } σ H) : tSeq t u D σ H := h
theorem i_ifs {c : TT} {t u : TS} (h : c σ H fun b H1 => if b = true then t D σ H1 else u D σ H1) : tIfS c t u D σ H := h
theorem i_next (h : D.nx σ H) : tNext D σ H := h
theorem i_ret {te : TE} (h : te σ H D.rt) : tRet te D σ H := h
theorem i_drop {te : TE} (h : te σ H fun _ H1 => D.nx σ H1) : tDrop te D σ H := h
theorem i_asg {te : TE} {g : TG} (h : te σ H fun x H1 => g x σ H1 D.nx) : tAsg te g D σ H := h
theorem i_name {i : Nat} {v : V} {K : St → Hp → Prop} (h : K (σ.set i (some v)) H) : gName i v σ H K := h
theorem i_gsub {to ti : TE} {t : TSet} {v : V} {K : St → Hp → Prop} (h : to σ H fun o H1 => ti σ H1 fun i H2 => t o i v H2 fun H3 => K σ H3) : gSub to ti t v σ H K := h
theorem i_gtup {K' : PySem.W.Frag} {n : Nat} {t : TGs} {a : Addr} {xs : List V} {K : St → Hp → Prop} (h1 : H a = some (.tup xs)) (h2 : xs.length = n) (h : t xs σ H K) : gTup K' n t (.ref a) σ H K := ⟨a, xs, rfl, SqT.of h1, h2, h⟩
theorem i_gnil {K : St → Hp → Prop} (h : K σ H) : gNil [] σ H K := ⟨rfl, h⟩
theorem i_gcons {t : TG} {u : TGs} {v : V} {r : List V} {K : St → Hp → Prop} (h : t v σ H fun σ' H' => u r σ' H' K) : gCons t u (v :: r) σ H K := ⟨v, r, rfl, h⟩
theorem i_for {wi : TI} {g : TG} {tb : TS} (h : wi σ H fun J H1 => ∃ W : Nat → Nat → St → Hp → Prop, (∃ m, W 0 m σ H1) ∧ ∀ i m σ H, W i m σ H →
  (J.stop i H ∧ D.nx σ H) ∨ (J.go i H ∧ ∃ N : St → Hp → Prop, (∀ σ' H', N σ' H' → ∃ m', m' < m ∧ W (i + 1) m' σ' H') ∧ ∀ x H', J.yld i H x H' → g x σ H' fun σ2 H2 => tb { D with nx := N, ct := N, bk := D.nx } σ2 H2)) : tFor wi g tb D σ H := h
theorem i_var {i : Nat} {v : V} (e : σ[i]? = some (some v)) (h : Q v H) : tVar i σ H Q := ⟨v, e, h⟩
theorem i_c {v : V} (h : Q v H) : tC v σ H Q := h
theorem i_op {r : R2} {ta tb : TE} (h : ta σ H fun x H1 => tb σ H1 fun y H2 => r x y H2 Q) : tOp r ta tb σ H Q := h
theorem i_un {r : V → Hp → VK → Prop} {ta : TE} (h : ta σ H fun x H1 => r x H1 Q) : tUn r ta σ H Q := h
theorem i_test {t : TE} (h : t σ H fun x H' => ∃ k, x = .bl k ∧ QB k H') : tTest t σ H QB := h
theorem i_bl {b : Bool} {P : Bool → Prop} (h : P b) : ∃ k, V.bl b = .bl k ∧ P k := ⟨b, rfl, h⟩
theorem i_and {t u : TT} (h : t σ H fun c H1 => if c = true then u σ H1 QB else QB false H1) : tAnd t u σ H QB := h
theorem i_or {t u : TT} (h : t σ H fun c H1 => if c = true then QB true H1 else u σ H1 QB) : tOr t u σ H QB := h
theorem i_ifE {t : TT} {ta tb : TE} (h : t σ H fun c H1 => if c = true then ta σ H1 Q else tb σ H1 Q) : tIf t ta tb σ H Q := h
theorem i_chain {r r' : R2} {ta tb tc : TE} (h : ta σ H fun x H1 => tb σ H1 fun y H2 => r x y H2 fun z H3 => ∃ k, z = .bl k ∧ (if k = true then tc σ H3 fun w' H4 => r' y w' H4 Q else Q (.bl false) H3)) : tChain r r' ta tb tc σ H Q := h
theorem i_nil (h : QA [] H) : tNil σ H QA := h
theorem i_cons {ta : TE} {tr : TA} (h : ta σ H fun x H1 => tr σ H1 fun xs H2 => QA (x :: xs) H2) : tCons ta tr σ H QA := h
theorem i_cb {r : List V → Hp → VK → Prop} {t : TA} (h : t σ H fun vs H1 => r vs H1 Q) : tCB r t σ H Q := h
theorem i_call {sp : Sp} {dvs : List V} {E : XK} {t : TA} (h : t σ H fun vs H1 => sp (vs ++ dvs) H1 Q E) : tCall sp dvs E t σ H Q := h
theorem i_lst {t : TA} (h : t σ H fun xs H1 => xs.length ≤ sizeLine ∧ ∀ p, H1 p = none → Q (.ref p) (upd H1 p (.lst xs))) : tLst t σ H Q := h
theorem i_tup {t : TA} (h : t σ H fun xs H1 => xs.length ≤ sizeLine ∧ ∀ p, H1 p = none → Q (.ref p) (upd H1 p (.tup xs))) : tTup t σ H Q := h
theorem i_bm {K : PySem.W.Frag} {T : String} {r : V → List V → Hp → VK → Prop} {to : TE} {t : TA} (h : to σ H fun x H1 => tyV K T x H1 ∧ t σ H1 fun xs H2 => r x xs H2 Q) : tBM K T r to t σ H Q := h
theorem i_sl {r : V → Option Int → Option Int → Hp → VK → Prop} {te : TE} {tl th : TO} (h : te σ H fun x H1 => tl σ H1 fun l H2 => th σ H2 fun u H3 => r x l u H3 Q) : tSl r te tl th σ H Q := h
theorem i_nopart {K : Option Int → Hp → Prop} (h : K none H) : tNoPart σ H K := h
theorem i_part {t : TE} {K : Option Int → Hp → Prop} (h : t σ H fun x H1 => ∃ i, x = .int i ∧ K (some i) H1) : tPart t σ H K := h
theorem i_exI {i : Int} {P : Int → Prop} (h : P i) : ∃ k, V.int i = .int k ∧ P k := ⟨i, rfl, h⟩
theorem i_comp {ix : List (Option Nat)} {wi : TI} {g : TG} {tc : TT} {te : TE} (h : wi σ H fun J H1 => ∀ p, H1 p = none → CompRuns J p g tc te Q (pick ix σ) (upd H1 p (.lst []))) : tComp ix wi g tc te σ H Q := h
theorem i_true (h : QB true H) : tTrue σ H QB := h
theorem i_rng1 {ta : TA} {R : It → Hp → Prop} (h : ta σ H fun vs H1 => ∃ j : Int, vs = [.int j] ∧ -(2 ^ 62) ≤ j ∧ j < 2 ^ 62 ∧ R (Itr 0 j.toNat) H1) : iRng1 ta σ H R := h
theorem p62 : ((2 : Int) ^ 62) = 4611686018427387904 := by decide
theorem p63 : ((2 : Int) ^ 63) = 9223372036854775808 := by decide
theorem i_r1 {j : Int} {P : Int → Prop} (h1 : -1000000000 ≤ j ∧ j ≤ 1000000000) (h : P j) : ∃ k : Int, [V.int j] = [.int k] ∧ -(2 ^ 62) ≤ k ∧ k < 2 ^ 62 ∧ P k := ⟨j, rfl, by rw [p62]; omega, by rw [p62]; omega, h⟩
theorem i_rng2 {ta : TA} {R : It → Hp → Prop} (h : ta σ H fun vs H1 => ∃ i j : Int, vs = [.int i, .int j] ∧ (-(2 ^ 62) ≤ i ∧ i < 2 ^ 62 ∧ -(2 ^ 62) ≤ j ∧ j < 2 ^ 62) ∧ R (Itr i (j - i).toNat) H1) : iRng2 ta σ H R := h
theorem i_r2 {i j : Int} {P : Int → Int → Prop} (h1 : -1000000000 ≤ i ∧ i ≤ 1000000000 ∧ -1000000000 ≤ j ∧ j ≤ 1000000000) (h : P i j) : ∃ a b : Int, [V.int i, V.int j] = [.int a, .int b] ∧ (-(2 ^ 62) ≤ a ∧ a < 2 ^ 62 ∧ -(2 ^ 62) ≤ b ∧ b < 2 ^ 62) ∧ P a b := ⟨i, j, rfl, by rw [p62]; omega, h⟩
theorem i_any {K : PySem.W.Frag} {te : TE} {R : It → Hp → Prop} (h : te σ H (anyIt K R)) : iAny K te σ H R := h
theorem i_anyL {K : PySem.W.Frag} {R : It → Hp → Prop} {a : Addr} {xs : List V} (h1 : SqL K H a xs) (h : R (Itl K a) H) : anyIt K R (.ref a) H := .inl ⟨xs, h1, h⟩
theorem i_anyT {K : PySem.W.Frag} {R : It → Hp → Prop} {a : Addr} {xs : List V} (h1 : SqT K H a xs) (h : R (Itt K a) H) : anyIt K R (.ref a) H := .inr ⟨xs, h1, h⟩
theorem i_tyS {K : PySem.W.Frag} {z : Str} {R : Prop} (h : R) : tyV K "str" (.str z) H ∧ R := ⟨rfl, h⟩
theorem i_tyL {K : PySem.W.Frag} {p : Addr} {xs : List V} {R : Prop} (h1 : SqL K H p xs) (h : R) : tyV K "list" (.ref p) H ∧ R := ⟨.inl ⟨rfl, xs, h1⟩, h⟩
/-! values -/
theorem i_fI0 {g : Int → Int → V} {i j : Int} (h : Q (g i j) H) : fI0 g (.int i) (.int j) H Q := h
theorem i_fI {C : Int → Int → Prop} {g : Int → Int → V} {i j : Int} (c : C i j) (h : Q (g i j) H) : fI C g (.int i) (.int j) H Q := ⟨c, h⟩
theorem i_addI {i j : Int} (h : Q (.int (i + j)) H) : fAdd (.int i) (.int j) H Q := h
theorem i_addS {i j : Str} (c : i.length + j.length ≤ sizeLine) (h : Q (.str (i ++ j)) H) : fAdd (.str i) (.str j) H Q := ⟨c, h⟩
theorem i_addL {a b : Addr} {xs ys : List V} (h1 : H a = some (.lst xs)) (h2 : H b = some (.lst ys)) (c : xs.length + ys.length ≤ sizeLine) (h : ∀ p, H p = none → Q (.ref p) (upd H p (.lst (xs ++ ys)))) : fAdd (.ref a) (.ref b) H Q := by
  show (match H a, H b with | some (.lst xs), some (.lst ys) => _ | some (.tup xs), some (.tup ys) => _ | _, _ => _)
  rw [h1, h2]; exact ⟨c, h⟩
theorem i_mulI {i j : Int} (c : CMul i j) (h : Q (.int (i * j)) H) : fMul (.int i) (.int j) H Q := ⟨c, h⟩
theorem i_mulL {a : Addr} {xs : List V} {k : Int} (h1 : H a = some (.lst xs)) (c : -1000000000 ≤ k ∧ k ≤ 1000000000 ∧ xs.length * k.toNat ≤ 1000000) (h : ∀ p, H p = none → Q (.ref p) (upd H p (.lst (List.replicate k.toNat xs).flatten))) : fMul (.ref a) (.int k) H Q := by
  show (match H a with | some (.lst xs) => _ | _ => _)
  rw [h1]; exact ⟨by rw [p63]; omega, by rw [p63]; omega, Nat.le_trans c.2.2 (by decide), h⟩
theorem i_ixK {K : PySem.W.Frag} {p : Addr} {i : Int} {xs : List V} {v : V} (h1 : SqL K H p xs) (h2 : atI xs i = some v) (h : Q v H) : fIx K (.ref p) (.int i) H Q := ⟨xs, v, .inl h1, h2, h⟩
theorem i_ixR {K : PySem.W.Frag} {p : Addr} {i : Int} {xs : List V} {v : V} (h1 : seqR H p = some xs) (h2 : atI xs i = some v) (h : Q v H) : fIx K (.ref p) (.int i) H Q := ⟨xs, v, seqR_sq h1, h2, h⟩
theorem i_ixS {K : PySem.W.Frag} {z : Str} {i : Int} {c : Nat} (hz : z.length ≤ sizeLine) (h2 : atI z.cps.toList i = some c) (h : Q (.str ⟨#[c]⟩) H) : fIx K (.str z) (.int i) H Q := by
  refine ⟨hz, ?_⟩
  rw [h2]; exact h
theorem i_set {p : Addr} {k : Int} {v : V} {xs : List V} {j : Nat} {K : Hp → Prop} (h1 : H p = some (.lst xs)) (h2 : ixN xs.length k = some j) (h : K (upd H p (.lst (xs.set j v)))) : fSet (.ref p) (.int k) v H K := by
  show (match H p with | some (.lst xs) => (match ixN xs.length k with | some j => K (upd H p (.lst (xs.set j v))) | none => False) | _ => False)
  rw [h1]; dsimp only; rw [h2]; exact h
theorem i_neg {i : Int} (h : Q (.int (-i)) H) : fNeg (.int i) H Q := h
theorem i_eq {x y : V} (c : scal x y = true) (h : Q (.bl (decide (x = y))) H) : fEq x y H Q := .inl ⟨c, h⟩
theorem i_ne {x y : V} (c : scal x y = true) (h : Q (.bl (!decide (x = y))) H) : fNe x y H Q := .inl ⟨c, h⟩
theorem i_neD {x y : V} {d : Dt} (h1 : Is H x d) (h2 : Is H y d) (c : okD d) (h : Q (.bl false) H) : fNe x y H Q := .inr ⟨d, d, h1, h2, c, c, by rw [eqD_self c]; exact h⟩
theorem i_eqD {x y : V} {d e : Dt} (h1 : Is H x d) (h2 : Is H y e) (c : okD d) (c2 : okD e) (h : Q (.bl (eqD d e)) H) : fEq x y H Q := .inr ⟨d, e, h1, h2, c, c2, h⟩
theorem i_is {x : V} (h : Q (.bl (decide (x = .non))) H) : fIs x .non H Q := ⟨rfl, h⟩
theorem i_isnot {x : V} (h : Q (.bl (!decide (x = .non))) H) : fIsNot x .non H Q := ⟨rfl, h⟩
theorem i_inR {neg : Bool} {x : V} {p : Addr} {xs : List V} (h1 : seqR H p = some xs) (c : flatV x = true ∧ xs.all flatV = true) (h : Q (.bl (if neg then !inV x xs else inV x xs)) H) : fIn neg x (.ref p) H Q := by
  unfold fIn
  cases x <;> (dsimp only; rw [h1]; exact ⟨c.1, c.2, h⟩)
theorem i_lenS {K : PySem.W.Frag} {z : Str} (hz : z.length ≤ sizeLine) (h : Q (.int z.length) H) : fLen K [.str z] H Q := ⟨hz, h⟩
theorem i_lenK {K : PySem.W.Frag} {p : Addr} {xs : List V} (h1 : SqL K H p xs) (h : Q (.int xs.length) H) : fLen K [.ref p] H Q := ⟨xs, .inl h1, h⟩
theorem i_lenR {K : PySem.W.Frag} {p : Addr} {xs : List V} (h1 : seqR H p = some xs) (h : Q (.int xs.length) H) : fLen K [.ref p] H Q := ⟨xs, seqR_sq h1, h⟩
theorem i_2I {g : Int → Int → V} {i j : Int} (h : Q (g i j) H) : f2I g [.int i, .int j] H Q := h
theorem i_intB {b : Bool} (h : Q (.int (if b then 1 else 0)) H) : fInt [.bl b] H Q := h
theorem i_listR {p : Addr} {xs : List V} (h1 : seqR H p = some xs) (h : ∀ q, H q = none → Q (.ref q) (upd H q (.lst xs))) : fList [.ref p] H Q := by
  show (match seqR H p with | some ys => GetL H ys Q | none => False)
  rw [h1]; exact h
theorem i_tupleR {p : Addr} {xs : List V} (h1 : seqR H p = some xs) (h : GetT H xs Q) : fTuple [.ref p] H Q := by
  show (match seqR H p with | some ys => GetT H ys Q | none => False)
  rw [h1]; exact h
theorem i_slS {K : PySem.W.Frag} {z : Str} {lo hi : Option Int} (hz : z.length ≤ sizeLine) (h : Q (.str (Txt.slice z lo hi)) H) : fSl K (.str z) lo hi H Q := ⟨hz, h⟩
theorem i_slL {K : PySem.W.Frag} {a : Addr} {xs : List V} {lo hi : Option Int} (h1 : SqL K H a xs) (h : ∀ q, H q = none → Q (.ref q) (upd H q (.lst (cutV xs lo hi)))) : fSl K (.ref a) lo hi H Q := .inl ⟨xs, h1, h⟩
theorem i_appL {l : Addr} {y : V} {xs : List V} (h1 : H l = some (.lst xs)) (c : xs.length < sizeLine) (h : Q .non (upd H l (.lst (xs ++ [y])))) : fAppend (.ref l) [y] H Q := by
  show (match H l with | some (.lst xs) => xs.length < sizeLine ∧ Q .non (upd H l (.lst (xs ++ [y]))) | _ => False)
  rw [h1]; exact ⟨c, h⟩
theorem i_join {z : Str} {p : Addr} {ys : List Str} (h1 : lstR H p = some (ys.map V.str)) (c : (ys.map (·.length)).sum + ys.length * z.length ≤ 16777216) (h : Q (.str (Txt.join z ys)) H) : fJoin (.str z) [.ref p] H Q := by
  show (match lstR H p with | some xs => (match strs? xs with | some ys => (ys.map (·.length)).sum + ys.length * z.length ≤ 16777216 ∧ Q (.str (Txt.join z ys)) H | none => False) | none => False)
  rw [h1]; dsimp only; rw [strs?_map]; exact ⟨c, h⟩
end
/-! small facts -/
theorem iteD {c A B : Prop} [Decidable c] (h1 : c → A) (h2 : ¬ c → B) : if decide c = true then A else B := by
  by_cases h : c
  · rw [if_pos (decide_eq_true h)]; exact h1 h
  · rw [if_neg (by rw [decide_eq_false h]; exact Bool.false_ne_true)]; exact h2 h
theorem iteDT {c A B : Prop} [Decidable c] (hc : c) (h : A) : if decide c = true then A else B := by rw [if_pos (decide_eq_true hc)]; exact h
theorem iteDF {c A B : Prop} [Decidable c] (hc : ¬ c) (h : B) : if decide c = true then A else B := by rw [if_neg (by rw [decide_eq_false hc]; exact Bool.false_ne_true)]; exact h
theorem iteBT {b : Bool} {A B : Prop} (h : b = true) (hA : A) : if b = true then A else B := by rw [if_pos h]; exact hA
theorem iteBF {b : Bool} {A B : Prop} (h : b = false) (hB : B) : if b = true then A else B := by rw [h]; exact iteF hB
theorem szc {xs : List V} (h : decide (xs.length ≤ 1000) = true) : xs.length ≤ sizeLine := Nat.le_trans (of_decide_eq_true h) (by decide)
theorem szn {n : Nat} (h : n ≤ 1000000) : n ≤ sizeLine := Nat.le_trans h (by decide)
theorem i_sz {xs : List V} {R : Prop} (h : xs.length ≤ sizeLine) (r : R) : xs.length ≤ sizeLine ∧ R := ⟨h, r⟩
theorem tyN_tup {H : Hp} {a : Addr} {xs : List V} (h : H a = some (.tup xs)) : tyN H (.ref a) = some "tuple" := by
  show (match H a with | some (.lst _) => some "list" | some (.frz _ (.lst _)) => some "list" | some (.tup _) => some "tuple" | _ => none) = _
  rw [h]
theorem tyN_lst {H : Hp} {a : Addr} {xs : List V} (h : H a = some (.lst xs)) : tyN H (.ref a) = some "list" := by
  show (match H a with | some (.lst _) => some "list" | some (.frz _ (.lst _)) => some "list" | some (.tup _) => some "tuple" | _ => none) = _
  rw [h]
theorem same_new {H : Hp} {p : Addr} (h : H p = none) (o : HO) : Same H (upd H p o) := fun b u q => by rw [upd_ne (ne_of_none q h)]; exact q
theorem iteB {b : Bool} {A B : Prop} (h1 : b = true → A) (h2 : b = false → B) : if b = true then A else B := by
  cases b
  · exact iteF (h2 rfl)
  · exact iteT (h1 rfl)
theorem atI_0 {α : Type} (x : α) (xs : List α) : atI (x :: xs) 0 = some x := atI_nat (xs := x :: xs) (j := 0) (v := x) rfl
theorem atI_1 {α : Type} (x y : α) (xs : List α) : atI (x :: y :: xs) 1 = some y := atI_nat (xs := x :: y :: xs) (j := 1) (v := y) rfl
theorem atI_2 {α : Type} (x y z : α) (xs : List α) : atI (x :: y :: z :: xs) 2 = some z := atI_nat (xs := x :: y :: z :: xs) (j := 2) (v := z) rfl
theorem atI_3 {α : Type} (x y z u : α) (xs : List α) : atI (x :: y :: z :: u :: xs) 3 = some u := atI_nat (xs := x :: y :: z :: u :: xs) (j := 3) (v := u) rfl
theorem ixN_of {n : Nat} {i : Int} (h : 0 ≤ i) (h2 : i < n) : ixN n i = some i.toNat := by
  unfold ixN; rw [if_pos h, if_pos h2]
theorem seqR_upd {H : Hp} {p : Addr} {xs : List V} : seqR (upd H p (.lst xs)) p = some xs := seqR_lst upd_same
theorem lstR_upd {H : Hp} {p : Addr} {xs : List V} : lstR (upd H p (.lst xs)) p = some xs := lstR_of upd_same
theorem seqR_updT {H : Hp} {p : Addr} {xs : List V} : seqR (upd H p (.tup xs)) p = some xs := seqR_tup upd_same
theorem atI_of {α : Type} {xs : List α} {i : Int} {v : α} (h : 0 ≤ i) (h2 : xs[i.toNat]? = some v) : atI xs i = some v := by
  have e : i = ((i.toNat : Nat) : Int) := by omega
  rw [e]; exact atI_nat h2
theorem CMul.l {i j : Int} (h1 : -(2 ^ 64) < i) (h2 : i < 2 ^ 64) : CMul i j := .inl ⟨h1, h2⟩
theorem CMul.r {i j : Int} (h1 : -(2 ^ 64) < j) (h2 : j < 2 ^ 64) : CMul i j := .inr ⟨h1, h2⟩
end L2

set_option Elab.async false
set_option linter.all false
set_option maxRecDepth 100000
namespace L2
open PySem PySem.Spec PyProof.Rows
/-! ### written data -/


end L2

set_option Elab.async false
set_option linter.all false
set_option maxRecDepth 100000
namespace L2
open PySem PySem.Spec PyProof.Rows
/-- small letters -/
def LET : Str := S [97, 98, 99, 100, 101, 102, 103, 104, 105, 106, 107, 108, 109, 110, 111, 112, 113, 114, 115, 116, 117, 118, 119, 120, 121, 122]
theorem let_eq : Str.ofString "abcdefghijklmnopqrstuvwxyz" = LET := by decide +kernel
/-! ### a drawing's feed -/
end L2

set_option Elab.async false
set_option linter.all false
set_option maxRecDepth 100000
namespace L2
open PySem PySem.Spec PyProof.Rows
/-! ### texts: what the operations give -/
theorem slice_S (l : List Nat) (lo hi : Option Int) : Txt.slice (S l) lo hi = S (cutA l lo hi) := slice_raw l lo hi
theorem join_S (sep : List Nat) (ls : List (List Nat)) : Txt.join (S sep) (ls.map S) = S (joinL sep ls) := by
  show Builtin.Str.glued (S sep) (ls.map S) = _
  rw [StrLaws.glued_eq_join, joinS]
theorem cut_plain {α : Type} (l : List α) (i j : Nat) (h : j ≤ l.length) (hij : i ≤ j) : cutA l (some (i : Int)) (some (j : Int)) = (l.drop i).take (j - i) := by
  unfold cutA
  have e1 : sx l.length 0 (some (i : Int)) = i := by simp only [sx]; rw [if_neg (by omega)]; omega
  have e2 : sx l.length l.length (some (j : Int)) = j := by simp only [sx]; rw [if_neg (by omega)]; omega
  rw [e1, e2]
theorem cut_from {α : Type} (l : List α) (i : Nat) (h : i ≤ l.length) : cutA l (some (i : Int)) none = l.drop i := by
  unfold cutA
  have e1 : sx l.length 0 (some (i : Int)) = i := by simp only [sx]; rw [if_neg (by omega)]; omega
  rw [e1]
  show (l.drop i).take (l.length - i) = _
  rw [List.take_of_length_le (by simp)]
theorem cutV_eq (xs : List V) (lo hi : Option Int) : cutV xs lo hi = cutA xs lo hi := rfl
theorem Low_cut {l : List Nat} (h : Low l) (lo hi : Option Int) : Low (cutA l lo hi) := fun c hc => h c (List.mem_of_mem_drop (List.mem_of_mem_take hc))
theorem Low_append {a b : List Nat} (ha : Low a) (hb : Low b) : Low (a ++ b) := fun c hc => (List.mem_append.mp hc).elim (ha c) (hb c)
theorem cut_length {α : Type} (l : List α) (lo hi : Option Int) : (cutA l lo hi).length = sx l.length l.length hi - sx l.length 0 lo := by
  have h1 := sx_le l.length l.length (Nat.le_refl _) hi
  unfold cutA
  rw [List.length_take, List.length_drop]
  omega
def LETL : List Nat := [97, 98, 99, 100, 101, 102, 103, 104, 105, 106, 107, 108, 109, 110, 111, 112, 113, 114, 115, 116, 117, 118, 119, 120, 121, 122]
theorem low_LETL : Low LETL := by unfold Low; decide
theorem t_let : Str.ofString "abcdefghijklmnopqrstuvwxyz" = S LETL := let_eq
theorem t_empty : Str.ofString "" = S [] := by decide +kernel
theorem t_dot : Str.ofString "." = S [46] := by decide +kernel
theorem joined_one (ws : List Nat) : Txt.join (S []) (ws.map fun c => S [c]) = S ws := by
  have e : (ws.map fun c => S [c]) = (ws.map fun c => [c]).map S := by rw [List.map_map]; rfl
  rw [e, join_S, joinL_nil]
  congr 1
  clear e
  induction ws with
  | nil => rfl
  | cons c ws ih => simp only [List.map_cons, List.flatten_cons]; rw [ih]; rfl
theorem sum_one (ws : List Nat) : ((ws.map fun c => S [c]).map (·.length)).sum = ws.length := by
  induction ws with
  | nil => rfl
  | cons c ws ih => simp only [List.map_cons, List.sum_cons, List.length_cons, S_length, List.length_nil]; rw [List.map_map] at ih ⊢; omega
theorem map_one (ws : List Nat) : (ws.map fun c => V.str (S [c])) = (ws.map fun c => S [c]).map V.str := by rw [List.map_map]; rfl
/-! ### patterns, as data -/
theorem i_addC {H : Hp} {Q : VK} {a b : List Nat} (hz : a.length + b.length ≤ 1000000) (h : Q (.str (S (a ++ b))) H) : fAdd (.str (S a)) (.str (S b)) H Q := i_addS (szn (by rw [S_length, S_length]; exact hz)) (by rw [S_append]; exact h)
theorem i_slC {K : PySem.W.Frag} {H : Hp} {Q : VK} {l : List Nat} {lo hi : Option Int} (hz : l.length ≤ 1000000) (h : Q (.str (S (cutA l lo hi))) H) : fSl K (.str (S l)) lo hi H Q := i_slS (szn (by rw [S_length]; exact hz)) (by rw [slice_S]; exact h)
theorem i_lenC {K : PySem.W.Frag} {H : Hp} {Q : VK} {l : List Nat} (hz : l.length ≤ 1000000) (h : Q (.int (l.length : Int)) H) : fLen K [.str (S l)] H Q := i_lenS (szn (by rw [S_length]; exact hz)) (by rw [S_length]; exact h)
theorem i_mulZ {H : Hp} {Q : VK} {a : Addr} {x : V} {k : Int} (h1 : H a = some (.lst [x])) (c : 0 ≤ k ∧ k ≤ 1000000) (h : ∀ p, H p = none → Q (.ref p) (upd H p (.lst (List.replicate k.toNat x)))) : fMul (.ref a) (.int k) H Q := by
  refine i_mulL h1 ⟨by omega, by omega, by simp; omega⟩ fun p hp => ?_
  have e : (List.replicate k.toNat [x]).flatten = List.replicate k.toNat x := by
    generalize k.toNat = m
    induction m with
    | zero => rfl
    | succ m ih => rw [List.replicate_succ, List.flatten_cons, ih]; rfl
  rw [e]; exact h p hp
theorem cutA_map {α β : Type} (g : α → β) (l : List α) (lo hi : Option Int) : cutA (l.map g) lo hi = (cutA l lo hi).map g := by
  unfold cutA
  rw [List.length_map, List.map_take, List.map_drop]
def patD (x : List Nat × List Int) : Dt := .tup [.str (S x.1), .tup (x.2.map Dt.int)]
def patsD (xs : List (List Nat × List Int)) : Dt := .lst (xs.map patD)
/-- a pattern as they are made here -/
structure GP (x : List Nat × List Int) : Prop where
  ne : 1 ≤ x.1.length
  le : x.1.length ≤ 22
  len : x.2.length = x.1.length + 1
  num : ∀ v ∈ x.2, 0 ≤ v ∧ v ≤ 9
  cs : ∀ c ∈ x.1, c < 128
theorem IsL_intsD {H : Hp} : ∀ {g : List Int} {xs : List V}, L2.IsL H xs (g.map Dt.int) → xs = g.map V.int
  | [], [], _ => rfl
  | [], _ :: _, h => by simp only [List.map_nil, L2.IsL] at h
  | _ :: _, [], h => by simp only [List.map_cons, L2.IsL] at h
  | k :: g, x :: xs, h => by
    simp only [List.map_cons, L2.IsL, Is] at h
    rw [h.1, IsL_intsD h.2]; rfl
theorem isPat {H : Hp} {v : V} {x : List Nat × List Int} (h : Is H v (patD x)) : ∃ a t, v = .ref a ∧ H a = some (.tup [.str (S x.1), .ref t]) ∧ H t = some (.tup (x.2.map V.int)) := by
  simp only [Is, patD] at h
  obtain ⟨a, xs, rfl, ha, hxs⟩ := h
  match xs, hxs with
  | [], h => simp only [L2.IsL] at h
  | [_], h => simp only [L2.IsL] at h; exact h.2.elim
  | _ :: _ :: _ :: _, h => simp only [L2.IsL] at h; exact h.2.2.elim
  | [y, z], h =>
    simp only [L2.IsL, Is] at h
    obtain ⟨rfl, ⟨t, ys, rfl, ht, hys⟩, _⟩ := h
    have := IsL_intsD hys
    subst this
    exact ⟨a, t, rfl, ha, ht⟩
theorem isPat_mk {H : Hp} {a t : Addr} {x : List Nat × List Int} (h1 : H a = some (.tup [.str (S x.1), .ref t])) (h2 : H t = some (.tup (x.2.map V.int))) : Is H (.ref a) (patD x) := by
  simp only [Is, patD, L2.IsL]
  exact ⟨a, _, rfl, h1, rfl, ⟨t, _, rfl, h2, IsL.ints _ _⟩, trivial⟩
theorem isPats {H : Hp} {v : V} {xs : List (List Nat × List Int)} (h : Is H v (patsD xs)) : ∃ a ys, v = .ref a ∧ H a = some (.lst ys) ∧ L2.IsL H ys (xs.map patD) := by
  simp only [Is, patsD] at h
  exact h
theorem IsL.append {H : Hp} : ∀ {ds es : List Dt} {xs ys : List V}, L2.IsL H xs ds → L2.IsL H ys es → L2.IsL H (xs ++ ys) (ds ++ es)
  | [], _, [], _, _, h => h
  | d :: ds, es, x :: xs, ys, h, k => by
    simp only [L2.IsL] at h
    simp only [List.cons_append, L2.IsL]
    exact ⟨h.1, IsL.append h.2 k⟩
  | [], _, _ :: _, _, h, _ => by simp only [L2.IsL] at h
  | _ :: _, _, [], _, h, _ => by simp only [L2.IsL] at h
end L2

set_option Elab.async false
set_option linter.all false
set_option maxRecDepth 100000
namespace L2
open PySem PySem.Spec PyProof.Rows
/-! ### list.extend by a list -/
/-! ### data of tuples alone: they stay whatever is stored -/
mutual
def tOnly : Dt → Bool
  | .lst _ => false
  | .tup ds => tOnlyL ds
  | _ => true
def tOnlyL : List Dt → Bool
  | [] => true
  | d :: ds => tOnly d && tOnlyL ds
end
def Tk (H H' : Hp) : Prop := ∀ b xs, H b = some (.tup xs) → H' b = some (.tup xs)
theorem Same.tk {H H' : Hp} (h : Same H H') : Tk H H' := fun b xs e => h b _ e
theorem Tk.lst {H : Hp} {p : Addr} {zs : List V} (h : H p = some (.lst zs)) (o : HO) : Tk H (upd H p o) := fun b xs e => by
  rw [upd_ne (ne_of e h (by intro z; cases z))]; exact e
mutual
theorem Is.tk {H H' : Hp} (h : Tk H H') : ∀ {d : Dt} {v : V}, tOnly d = true → Is H v d → Is H' v d
  | .non, _, _, k => by simp only [Is] at k ⊢; exact k
  | .bl _, _, _, k => by simp only [Is] at k ⊢; exact k
  | .int _, _, _, k => by simp only [Is] at k ⊢; exact k
  | .str _, _, _, k => by simp only [Is] at k ⊢; exact k
  | .tup ds, _, t, k => by
    simp only [tOnly] at t
    simp only [Is] at k ⊢
    obtain ⟨a, xs, e, h1, h2⟩ := k
    exact ⟨a, xs, e, h _ _ h1, IsL.tk h t h2⟩
  | .lst ds, _, t, _ => by simp only [tOnly] at t; cases t
theorem IsL.tk {H H' : Hp} (h : Tk H H') : ∀ {ds : List Dt} {xs : List V}, tOnlyL ds = true → IsL H xs ds → IsL H' xs ds
  | [], [], _, _ => by simp only [IsL]
  | [], _ :: _, _, k => by simp only [IsL] at k
  | _ :: _, [], _, k => by simp only [IsL] at k
  | d :: ds, x :: xs, t, k => by
    simp only [tOnlyL, Bool.and_eq_true] at t
    simp only [IsL] at k ⊢
    exact ⟨Is.tk h t.1 k.1, IsL.tk h t.2 k.2⟩
end
theorem tOnlyL_of : ∀ {ds : List Dt}, (∀ d ∈ ds, tOnly d = true) → tOnlyL ds = true
  | [], _ => rfl
  | d :: ds, h => by simp only [tOnlyL, Bool.and_eq_true]; exact ⟨h d List.mem_cons_self, tOnlyL_of fun e he => h e (List.mem_cons_of_mem _ he)⟩
theorem tOnlyL_ints (ns : List Int) : tOnlyL (ns.map Dt.int) = true := tOnlyL_of fun d hd => by
  obtain ⟨n, _, rfl⟩ := List.mem_map.mp hd; rfl
theorem tOnly_pat (x : List Nat × List Int) : tOnly (patD x) = true := by simp only [patD, tOnly, tOnlyL, tOnlyL_ints, Bool.and_true]
theorem tOnly_pats (xs : List (List Nat × List Int)) : tOnlyL (xs.map patD) = true := tOnlyL_of fun d hd => by
  obtain ⟨n, _, rfl⟩ := List.mem_map.mp hd; exact tOnly_pat n
theorem IsL.snoc {H : Hp} {ds : List Dt} {d : Dt} {xs : List V} {x : V} (h : IsL H xs ds) (k : Is H x d) : IsL H (xs ++ [x]) (ds ++ [d]) :=
  IsL.append h (by simp only [IsL]; exact ⟨k, trivial⟩)
/-! ### fits: (begin, numbers) -/
end L2

set_option Elab.async false
set_option linter.all false
set_option maxRecDepth 100000
namespace L2
open PySem PySem.Spec PyProof.Rows

/-! ### lists of pairs as tables -/
section
variable {κ : Type} [DecidableEq κ]
def valV (kvs : List (κ × V)) (k : κ) : Option V := (kvs.find? fun kv => decide (kv.1 = k)).map (·.2)
/-- in its place, or at the end -/
def putK (kvs : List (κ × V)) (k : κ) (v : V) : List (κ × V) :=
  if (kvs.any fun kv => decide (kv.1 = k)) = true then kvs.map (fun kv => if kv.1 = k then (kv.1, v) else kv) else kvs ++ [(k, v)]
def dropK (kvs : List (κ × V)) (k : κ) : List (κ × V) := kvs.filter fun kv => decide (kv.1 ≠ k)

theorem valV_pos {p : κ × V} {r : List (κ × V)} {k : κ} (e : p.1 = k) : valV (p :: r) k = some p.2 := by simp [valV, List.find?_cons, e]
theorem valV_neg {p : κ × V} {r : List (κ × V)} {k : κ} (e : ¬ p.1 = k) : valV (p :: r) k = valV r k := by simp [valV, List.find?_cons, e]
theorem valV_any (k : κ) : ∀ kvs : List (κ × V), (kvs.any fun kv => decide (kv.1 = k)) = (valV kvs k).isSome
  | [] => rfl
  | p :: r => by
    rw [List.any_cons]
    by_cases e : p.1 = k
    · simp only [valV_pos e, decide_eq_true e, Bool.true_or, Option.isSome_some]
    · rw [valV_neg e, decide_eq_false e, Bool.false_or]; exact valV_any k r
theorem valV_map (k j : κ) (y : V) : ∀ kvs : List (κ × V), valV (kvs.map fun kv => if kv.1 = k then (kv.1, y) else kv) j = (valV kvs j).map fun x => if j = k then y else x
  | [] => rfl
  | p :: r => by
    have ih := valV_map k j y r
    rw [List.map_cons]
    by_cases h : p.1 = k
    · rw [if_pos h]
      by_cases e : p.1 = j
      · rw [valV_pos (p := (p.1, y)) e, valV_pos e, Option.map_some, if_pos (e.symm.trans h)]
      · rw [valV_neg (p := (p.1, y)) e, valV_neg e, ih]
    · rw [if_neg h]
      by_cases e : p.1 = j
      · rw [valV_pos (p := p) e, valV_pos e, Option.map_some, if_neg (fun z => h (e.trans z))]
      · rw [valV_neg (p := p) e, valV_neg e, ih]
theorem valV_snoc (k j : κ) (y : V) : ∀ kvs : List (κ × V), valV kvs k = none → valV (kvs ++ [(k, y)]) j = if j = k then some y else valV kvs j
  | [], _ => by
    by_cases e : k = j
    · rw [if_pos e.symm]; exact valV_pos (p := (k, y)) e
    · rw [if_neg (fun z => e z.symm)]; exact valV_neg (p := (k, y)) e
  | p :: r, hn => by
    rw [List.cons_append]
    have hk : ¬ p.1 = k := fun z => by rw [valV_pos z] at hn; cases hn
    rw [valV_neg hk] at hn
    have ih := valV_snoc k j y r hn
    by_cases e : p.1 = j
    · rw [valV_pos e, valV_pos e, if_neg (fun z => hk (e.trans z))]
    · rw [valV_neg e, valV_neg e, ih]
theorem valV_put (kvs : List (κ × V)) (k j : κ) (y : V) : valV (putK kvs k y) j = if j = k then some y else valV kvs j := by
  unfold putK
  by_cases a : (kvs.any fun kv => decide (kv.1 = k)) = true
  · rw [if_pos a, valV_map]
    rw [valV_any] at a
    by_cases e : j = k
    · obtain ⟨x, hx⟩ := Option.isSome_iff_exists.mp a
      rw [if_pos e, e, hx, Option.map_some, if_pos rfl]
    · rw [if_neg e]
      cases valV kvs j with
      | none => rfl
      | some x => rw [Option.map_some, if_neg e]
  · rw [if_neg a]
    refine valV_snoc k j y kvs ?_
    rw [valV_any] at a
    cases q : valV kvs k with
    | none => rfl
    | some x => rw [q] at a; exact (a rfl).elim
theorem length_putK (kvs : List (κ × V)) (k : κ) (v : V) : (putK kvs k v).length ≤ kvs.length + 1 := by
  unfold putK
  split
  · rw [List.length_map]; omega
  · rw [List.length_append, List.length_cons, List.length_nil]; omega

theorem RelO.isSome_eq {o : Option V} {u : Option Value} (r : RelO o u) : o.isSome = u.isSome := by
  cases o with
  | none => cases u with
    | none => rfl
    | some _ => exact (show False from r).elim
  | some _ => cases u with
    | none => exact (show False from r).elim
    | some _ => rfl
theorem RelO.getD {o : Option V} {u : Option Value} {d : V} {d' : Value} (r : RelO o u) (rd : RelV d d') : RelV (o.getD d) (u.getD d') := by
  cases o with
  | none => cases u with
    | none => exact rd
    | some _ => exact (show False from r).elim
  | some _ => cases u with
    | none => exact (show False from r).elim
    | some _ => exact r

/-- raw tables of the same keys -/
theorem KV.val {kvs : List (κ × V)} {vs : List (κ × Value)} (r : KV kvs vs) (k : κ) : RelO (valV kvs k) (valueAt vs k) := by
  unfold KV at r
  induction r with
  | nil => exact True.intro
  | @cons p q ps qs h t ih =>
    obtain ⟨h1, h2⟩ := h
    by_cases e : p.1 = k
    · have e' : q.1 = k := h1.symm.trans e
      have b : valueAt (q :: qs) k = some q.2 := by simp [valueAt, List.find?_cons, e']
      rw [valV_pos e, b]; exact h2
    · have e' : ¬ q.1 = k := fun z => e (h1.trans z)
      have b : valueAt (q :: qs) k = valueAt qs k := by simp [valueAt, List.find?_cons, e']
      rw [valV_neg e, b]; exact ih
theorem KV.any {kvs : List (κ × V)} {vs : List (κ × Value)} (r : KV kvs vs) (k : κ) : (kvs.any fun kv => decide (kv.1 = k)) = vs.any fun kv => decide (kv.1 = k) := by
  unfold KV at r
  induction r with
  | nil => rfl
  | cons h t ih => rw [List.any_cons, List.any_cons, ih, h.1]
theorem KV.repl {kvs : List (κ × V)} {vs : List (κ × Value)} (r : KV kvs vs) (k : κ) {y : V} {u : Value} (ry : RelV y u) :
    KV (kvs.map fun kv => if kv.1 = k then (kv.1, y) else kv) (vs.map fun kv => if kv.1 = k then (kv.1, u) else kv) := by
  unfold KV at r ⊢
  induction r with
  | nil => exact .nil
  | @cons p q ps qs h t ih =>
    rw [List.map_cons, List.map_cons]
    refine .cons ?_ ih
    obtain ⟨h1, h2⟩ := h
    by_cases e : p.1 = k
    · rw [if_pos e, if_pos (h1.symm.trans e)]; exact ⟨h1, ry⟩
    · rw [if_neg e, if_neg (fun z => e (h1.trans z))]; exact ⟨h1, h2⟩
theorem KV.put {kvs : List (κ × V)} {vs : List (κ × Value)} (r : KV kvs vs) (k : κ) {y : V} {u : Value} (ry : RelV y u) : KV (putK kvs k y) (stored vs k u) := by
  unfold putK stored
  rw [r.any k]
  by_cases e : (vs.any fun kv => decide (kv.1 = k)) = true
  · rw [if_pos e, if_pos e]; exact r.repl k ry
  · rw [if_neg e, if_neg e]; exact Paired.snoc r ⟨rfl, ry⟩
theorem KV.drop {kvs : List (κ × V)} {vs : List (κ × Value)} (r : KV kvs vs) (k : κ) : KV (dropK kvs k) (without vs k) := by
  unfold KV at r ⊢
  unfold dropK without
  induction r with
  | nil => exact .nil
  | @cons p q ps qs h t ih =>
    obtain ⟨h1, h2⟩ := h
    rw [List.filter_cons, List.filter_cons]
    by_cases e : p.1 = k
    · have a : ¬ decide (p.1 ≠ k) = true := by simp [e]
      have b : ¬ decide (q.1 ≠ k) = true := by simp [h1.symm.trans e]
      rw [if_neg a, if_neg b]; exact ih
    · have e' : ¬ q.1 = k := fun z => e (h1.trans z)
      have a : decide (p.1 ≠ k) = true := by simp [e]
      have b : decide (q.1 ≠ k) = true := by simp [e']
      rw [if_pos a, if_pos b]; exact .cons ⟨h1, h2⟩ ih
theorem KV.length {kvs : List (κ × V)} {vs : List (κ × Value)} (r : KV kvs vs) : kvs.length = vs.length := Paired.length r
theorem dropK_le (kvs : List (κ × V)) (k : κ) : (dropK kvs k).length ≤ kvs.length := List.length_filter_le _ _
end


/-! ### a tracked dict, its keys ints and texts or tuples of these -/
theorem kV_is {P : Program} {w : World} {k : Key} {u : Value} (r : RelV (kV k) u) : (mixKind P w).is k u = true := by
  cases k with
  | inl i => obtain ⟨t, e⟩ := (show ∃ t, u = Value.int i t from r); subst e; exact mixKind_int P w i t
  | inr x => obtain ⟨t, e⟩ := (show ∃ t, u = Value.str x t from r); subst e; exact mixKind_str P w x t
theorem items_are {P : Program} {w : World} : ∀ {ks : List Key} {us : List Value}, Vals (ks.map kV) us → ItemsAre (mixKind P w) ks us
  | [], _, r => by rw [List.map_nil] at r; cases r; exact .nil
  | k :: ks, _, r => by
    rw [List.map_cons] at r
    cases r with
    | cons h t => exact .cons (kV_is h) (items_are t)

/-- raw entries of a dict with tuple keys -/
abbrev KT (H : Hp) : List (List Key × V) → List (List Key × Addr × Value) → Prop := Paired fun p q => p.1 = q.1 ∧ H q.2.1 = some (.tup (p.1.map kV)) ∧ RelV p.2 q.2.2
theorem KT.val {H : Hp} {kvs : List (List Key × V)} {xs : List (List Key × Addr × Value)} (r : KT H kvs xs) (k : List Key) : RelO (valV kvs k) ((atKey xs k).map (·.2)) := by
  induction r with
  | nil => exact True.intro
  | @cons p q ps qs h t ih =>
    obtain ⟨h1, _, h2⟩ := h
    by_cases e : p.1 = k
    · have e' : q.1 = k := h1.symm.trans e
      have b : atKey (q :: qs) k = some q.2 := by simp [atKey, List.find?_cons, e']
      rw [valV_pos e, b]; exact h2
    · have e' : ¬ q.1 = k := fun z => e (h1.trans z)
      have b : atKey (q :: qs) k = atKey qs k := by simp [atKey, List.find?_cons, e']
      rw [valV_neg e, b]; exact ih
theorem KT.repl {H : Hp} {kvs : List (List Key × V)} {xs : List (List Key × Addr × Value)} (r : KT H kvs xs) (k : List Key) {y : V} {u : Value} (ry : RelV y u) :
    KT H (kvs.map fun kv => if kv.1 = k then (kv.1, y) else kv) (xs.map (putAt k u)) := by
  induction r with
  | nil => exact .nil
  | @cons p q ps qs h t ih =>
    rw [List.map_cons, List.map_cons]
    refine .cons ?_ ih
    obtain ⟨h1, h2, h3⟩ := h
    unfold putAt
    by_cases e : p.1 = k
    · rw [if_pos e, if_pos (h1.symm.trans e)]; exact ⟨h1, h2, ry⟩
    · rw [if_neg e, if_neg (fun z => e (h1.trans z))]; exact ⟨h1, h2, h3⟩
theorem KT.put {H : Hp} {kvs : List (List Key × V)} {xs : List (List Key × Addr × Value)} (r : KT H kvs xs) (k : List Key) {b : Addr} {y : V} {u : Value} (hb : H b = some (.tup (k.map kV))) (ry : RelV y u) :
    KT H (putK kvs k y) (storedH xs k b u) := by
  have e : (kvs.any fun kv => decide (kv.1 = k)) = (atKey xs k).isSome := by
    rw [valV_any, (r.val k).isSome_eq, Option.isSome_map]
  unfold putK storedH
  rw [e]
  by_cases q : (atKey xs k).isSome = true
  · rw [if_pos q, if_pos q]; exact r.repl k ry
  · rw [if_neg q, if_neg q]; exact Paired.snoc r ⟨rfl, hb, ry⟩
theorem KT.keeps {H H' : Hp} {kvs : List (List Key × V)} {xs : List (List Key × Addr × Value)} (r : KT H kvs xs) (ht : ∀ b ys, H b = some (.tup ys) → H' b = some (.tup ys)) : KT H' kvs xs :=
  Paired.mapP r fun _ _ z => ⟨z.1, ht _ _ z.2.1, z.2.2⟩

section
variable {P : Program} {w : World} {H : Hp} {h : Heap} {a : Addr}
theorem rd_of {u : HO} (ok : HOk P w H h) (e : Rd H a u) : ObjOk P w H h a u := e.ok ok
theorem dk_rd {kvs : List (Key × V)} (ok : HOk P w H h) (e : Rd H a (.dK kvs)) : kvs.length ≤ sizeLine ∧ (a == sysModules) = false ∧ ∃ vs, KV kvs vs ∧ h.DictOf (mixKind P w) a vs :=
  show ObjOk P w H h a (.dK kvs) from rd_of ok e
theorem dk_of {kvs : List (Key × V)} (ok : HOk P w H h) (e : H a = some (.dK kvs)) : kvs.length ≤ sizeLine ∧ (a == sysModules) = false ∧ ∃ vs, KV kvs vs ∧ h.DictOf (mixKind P w) a vs := dk_rd ok (.inl e)
/-- a tracked tuple of ints and texts is a key -/
theorem key_of {ks : List Key} (ok : HOk P w H h) (e : H a = some (.tup (ks.map kV))) : (tupleKind (mixKind P w)).is h ks a := by
  obtain ⟨_, its, r, o, h1, h2, n, h3⟩ := (show ObjOk P w H h a (.tup (ks.map kV)) from ok a _ e)
  exact ⟨o, its.toArray, n, h1, h2, h3, by simpa using items_are r⟩
theorem dt_rd {kvs : List (List Key × V)} (ok : HOk P w H h) (e : Rd H a (.dT kvs)) : kvs.length ≤ sizeLine ∧ (a == sysModules) = false ∧
    ∃ xs, KT H kvs xs ∧ h.DictOfH (tupleKind (mixKind P w)) a xs := by
  obtain ⟨z, y, xs, r, o, es, ep, h1, h2, h3, h4, h5⟩ := (show ObjOk P w H h a (.dT kvs) from rd_of ok e)
  refine ⟨z, y, xs, r, o, es, ep, h1, h2, h3, h4, fun x hx => ?_, h5⟩
  have all : ∀ {l : List (List Key × V)} {m : List (List Key × Addr × Value)}, KT H l m → ∀ x ∈ m, (tupleKind (mixKind P w)).is h x.1 x.2.1 := by
    intro l m q
    induction q with
    | nil => intro x hx; exact nomatch hx
    | @cons p q ps qs hq t ih =>
      intro x hx
      rcases List.mem_cons.mp hx with e | hx
      · subst e
        exact key_of ok (by rw [← hq.1]; exact hq.2.1)
      · exact ih x hx
  exact all r x hx
theorem dt_of {kvs : List (List Key × V)} (ok : HOk P w H h) (e : H a = some (.dT kvs)) : kvs.length ≤ sizeLine ∧ (a == sysModules) = false ∧
    ∃ xs, KT H kvs xs ∧ h.DictOfH (tupleKind (mixKind P w)) a xs := dt_rd ok (.inl e)
end

/-- what the dict at a holds at the key y -/
def DGet (H : Hp) (a : Addr) (y : V) (r : Option V) : Prop :=
  (∃ kvs k, Rd H a (.dK kvs) ∧ y = kV k ∧ r = valV kvs k) ∨ ∃ kvs k b, Rd H a (.dT kvs) ∧ y = .ref b ∧ H b = some (.tup (k.map kV)) ∧ r = valV kvs k
/-- the heap behind a[y] = v -/
def DPut (H : Hp) (a : Addr) (y v : V) (H' : Hp) : Prop :=
  (∃ kvs k, H a = some (.dK kvs) ∧ y = kV k ∧ kvs.length < sizeLine ∧ H' = upd H a (.dK (putK kvs k v))) ∨
  ∃ kvs k b, H a = some (.dT kvs) ∧ y = .ref b ∧ H b = some (.tup (k.map kV)) ∧ kvs.length < sizeLine ∧ H' = upd H a (.dT (putK kvs k v))
theorem DGet.k {H : Hp} {a : Addr} {kvs : List (Key × V)} {k : Key} (e : H a = some (.dK kvs)) : DGet H a (kV k) (valV kvs k) := .inl ⟨kvs, k, .inl e, rfl, rfl⟩
theorem DPut.k {H : Hp} {a : Addr} {kvs : List (Key × V)} {k : Key} {v : V} (e : H a = some (.dK kvs)) (hl : kvs.length < sizeLine) : DPut H a (kV k) v (upd H a (.dK (putK kvs k v))) := .inl ⟨kvs, k, e, rfl, hl, rfl⟩


section
variable {X : Cx} {pins : List (Addr × Obj)} {σ : St} {H : Hp} {s : Shared} {a : Addr} {y v : V} {u r : Value} {o : Option V} {A : Around} {E : Value → Shared → Prop}

theorem Inv.big (I : Inv X pins σ H s) : sysModules < s.heap.objs.size := by
  have h : mainGlobals < s.heap.objs.size := (I.mod.glob.keeps I.bk).lt
  exact Nat.lt_trans (by decide) h

/-- d[y], there -/
theorem d_getItem {Q : Value → Shared → Prop} (hu : A.units + 1 < cLine) (I : Inv X pins σ H s) (g : DGet H a y (some v)) (ry : RelV y u) (h : ∀ w' s', Inv X pins σ H s' → RelV v w' → Q w' s') :
    wpAny (model X.prog X.w) A (getItem (.ref a) u) Q E s := by
  rcases g with ⟨kvs, k, e, ey, l⟩ | ⟨kvs, k, b, e, ey, eb, l⟩
  · subst ey
    obtain ⟨z, hd, vs, rel, dd⟩ := dk_rd I.hok e
    obtain ⟨w', hw, rw'⟩ := RelO.some_of (v := v) (o := valueAt vs k) (by rw [l]; exact rel.val k)
    exact wpAny_getItem_of (kV_is ry) dd.mapOf hw (h w' _ (I.tok _) rw')
  · subst ey
    cases (show u = Value.ref b from ry)
    obtain ⟨z, hd, xs, rel, dd⟩ := dt_rd I.hok e
    obtain ⟨w', hw, rw'⟩ := RelO.some_of (v := v) (o := (atKey xs k).map (·.2)) (by rw [l]; exact rel.val k)
    obtain ⟨p, hp, hp2⟩ := Option.map_eq_some_iff.mp hw
    refine wpAny_getItem_heap (tupleKind_room_in1 hu) (key_of I.hok eb) dd hp ?_
    rw [hp2]
    exact h w' _ (I.tok _) rw'
/-- y in d -/
theorem d_in {Q : Value → Shared → Prop} (hu : A.units + 1 < cLine) (I : Inv X pins σ H s) (g : DGet H a y o) (ry : RelV y u) (h : ∀ s', Inv X pins σ H s' → Q (.bool o.isSome) s') :
    wpAny (model X.prog X.w) A (compareOp .In u (.ref a)) Q E s := by
  rcases g with ⟨kvs, k, e, ey, l⟩ | ⟨kvs, k, b, e, ey, eb, l⟩
  · subst ey
    obtain ⟨z, hd, vs, rel, dd⟩ := dk_rd I.hok e
    refine wpAny_in_of (kV_is ry) hd dd.mapOf ?_
    rw [← (rel.val k).isSome_eq, ← l]
    exact h _ (I.tok _)
  · subst ey
    cases (show u = Value.ref b from ry)
    obtain ⟨z, hd, xs, rel, dd⟩ := dt_rd I.hok e
    refine wpAny_in_heap (tupleKind_room_in1 hu) (key_of I.hok eb) hd dd ?_
    have q := (rel.val k).isSome_eq
    rw [Option.isSome_map] at q
    rw [← q, ← l]
    exact h _ (I.tok _)
/-- a dict's object is replaced -/
theorem d_write {h' : Heap} {t' : Nat} {ob : HO} (I : Inv X pins σ H s) (mu : Mut (H a)) (hs : Heap.SameBut a s.heap h') (he : ∃ q, h'.get? a = some q) (new : ObjOk X.prog X.w (upd H a ob) h' a ob) :
    Inv X pins σ (upd H a ob) { s with heap := h', toks := t' } :=
  I.write (x := a) (e := a) mu (.inl rfl) (fun b q hb z => (hs.2 b hb).trans z) he new
theorem dk_new {P : Program} {w : World} {H' : Hp} {h' : Heap} {kvs : List (Key × V)} {vs : List (Key × Value)} (z : kvs.length ≤ sizeLine) (hd : (a == sysModules) = false) (rel : KV kvs vs) (dd : h'.DictOf (mixKind P w) a vs) :
    ObjOk P w H' h' a (.dK kvs) := ⟨z, hd, vs, rel, dd⟩
/-- d[y] = v -/
theorem d_setItem {H' : Hp} {Q : Unit → Shared → Prop} (hu : A.units + 1 < cLine) (I : Inv X pins σ H s) (g : DPut H a y v H') (ry : RelV y u) (rv : RelV v r) (h : ∀ s', Inv X pins σ H' s' → Q () s') :
    wpAny (model X.prog X.w) A (setItem (.ref a) u r) Q E s := by
  rcases g with ⟨kvs, k, e, ey, l, eH⟩ | ⟨kvs, k, b, e, ey, eb, l, eH⟩
  · subst ey eH
    obtain ⟨z, hd, vs, rel, dd⟩ := dk_of I.hok e
    have hz : vs.length ≤ sizeLine := by rw [← rel.length]; exact z
    have hl : (putK kvs k v).length ≤ sizeLine := by have := length_putK kvs k v; omega
    refine wpAny_setItem_pairs (hsz := hz) (kV_is ry) dd fun h' dd' hs => h _ ?_
    have he : ∃ q, h'.get? a = some q := let ⟨q, _, _, hq, _⟩ := dd'; ⟨q, hq⟩
    exact d_write I (by rw [e]; exact True.intro) hs he (dk_new hl hd (rel.put k rv) dd')
  · subst ey eH
    cases (show u = Value.ref b from ry)
    obtain ⟨z, hd, xs, rel, dd⟩ := dt_of I.hok e
    have hz : xs.length ≤ sizeLine := by rw [← Paired.length rel]; exact z
    have hl : (putK kvs k v).length ≤ sizeLine := by have := length_putK kvs k v; omega
    refine wpAny_setItem_heap (hsz := hz) (tupleKind_room_in1 hu) (key_of I.hok eb) dd fun h' dd' hs => h _ ?_
    obtain ⟨q, es, ep, hq, h2, h3, h4, _, h5⟩ := dd'
    refine d_write I (by rw [e]; exact True.intro) hs ⟨q, hq⟩ ⟨hl, hd, _, (rel.put k eb rv).keeps fun c ys ec => ?_, q, es, ep, hq, h2, h3, h4, h5⟩
    rw [upd_ne (ne_of ec e (fun z => nomatch z))]
    exact ec
end

section
variable {X : Cx} {pins : List (Addr × Obj)} {σ : St} {H : Hp} {s : Shared} {a : Addr} {kvs : List (Key × V)} {k : Key} {u : Value} {A : Around} {E : Value → Shared → Prop}
/-- del d[k] -/
theorem d_delItem {Q : Unit → Shared → Prop} (I : Inv X pins σ H s) (e : H a = some (.dK kvs)) (ry : RelV (kV k) u) (l : (valV kvs k).isSome = true) (h : ∀ s', Inv X pins σ (upd H a (.dK (dropK kvs k))) s' → Q () s') :
    wpAny (model X.prog X.w) A (delItem (.ref a) u) Q E s := by
  obtain ⟨z, hd, vs, rel, dd⟩ := dk_of I.hok e
  refine wpAny_delItem_slot dd.typeIs (by decide) PySem.F.slot_dict_delitem
    (call_meetsIn PySem.F.slot_dict_delitem dd.typeIs PySem.F.entry_dict_delitem (PySem.F.args_dict_delitem_2 _ _) (meets_dict_delitem_pairs (mixKind X.prog X.w) a (kV_is ry)) ⟨vs, dd, by rw [← rel.length]; exact z, by rw [← (rel.val k).isSome_eq]; exact l, fun h' dd' hs => h _ ?_⟩)
  have he : ∃ q, h'.get? a = some q := let ⟨q, _, _, hq, _⟩ := dd'; ⟨q, hq⟩
  exact d_write I (by rw [e]; exact True.intro) hs he (dk_new (Nat.le_trans (dropK_le kvs k) z) hd (rel.drop k) dd')
/-- d.pop(k[, x]), there -/
theorem d_pop {v : V} {more : List Value} {Q : Value → Shared → Prop} (I : Inv X pins σ H s) (e : H a = some (.dK kvs)) (ry : RelV (kV k) u) (l : valV kvs k = some v) (hm : more = [] ∨ ∃ x, more = [x])
    (h : ∀ w' s', Inv X pins σ (upd H a (.dK (dropK kvs k))) s' → RelV v w' → Q w' s') : wpAny (model X.prog X.w) A (call (.builtin "dict.pop") (.ref a :: u :: more)) Q E s := by
  obtain ⟨z, hd, vs, rel, dd⟩ := dk_of I.hok e
  obtain ⟨w', hw, rw'⟩ := RelO.some_of (v := v) (o := valueAt vs k) (by rw [← l]; exact rel.val k)
  have hp : (keyPart u).isSome = true := by
    cases k with
    | inl i => obtain ⟨t, q⟩ := (show ∃ t, u = Value.int i t from ry); subst q; rfl
    | inr x => obtain ⟨t, q⟩ := (show ∃ t, u = Value.str x t from ry); subst q; rfl
  have ha : argsOk "dict.pop" ⟨.ref a :: u :: more, []⟩ := by
    rcases hm with q | ⟨x, q⟩
    · subst q; exact PySem.F.args_dict_pop_2 _ _
    · subst q; exact PySem.F.args_dict_pop_3 _ _ _
  refine call_meetsIn PySem.F.slot_dict_pop dd.typeIs PySem.F.entry_dict_pop ha (meets_dict_pop_there (mixKind X.prog X.w) a (kV_is ry) more hm hp)
    ⟨vs, w', dd, by rw [← rel.length]; exact z, hw, fun h' dd' hs => h w' _ ?_ rw'⟩
  have he : ∃ q, h'.get? a = some q := let ⟨q, _, _, hq, _⟩ := dd'; ⟨q, hq⟩
  exact d_write I (by rw [e]; exact True.intro) hs he (dk_new (Nat.le_trans (dropK_le kvs k) z) hd (rel.drop k) dd')
end


/-! ### readings and rules -/
/-- the element of a subscription, not a slice -/
def NoSl (i : Expr) : Prop := ∀ ov iv, subscripted i false ov iv = operate [ov, iv] (getItem ov iv)
theorem subD_of {prog : Program} {w : World} {A : Around} {E : Value → Shared → Prop} {s : Shared} {env : Env} {value slice : Expr} {pos : Pos} {T id : String} {Q : Value → Shared → Prop}
    (hl : typeLookup (.type T) "__getitem__" = pure (some (.builtin id))) (hs : NoSl slice)
    (h : wpAny (model prog w) A (eval value env) (fun o s₁ => wpAny (model prog w) A (eval slice env) (fun i s₂ => s₂.TypeIs o T ∧ wpAny (model prog w) A (getItem o i) Q E s₂) E s₁) E s) :
    wpAny (model prog w) A (eval (.Subscript value slice pos) env) Q E s := by
  refine Subscript_ (wpAny_mono h (fun o s₁ h₁ => wpAny_mono h₁ (fun i s₂ h₂ => ?_) fun _ _ x => x) fun _ _ x => x)
  obtain ⟨hT, h₂⟩ := h₂
  unfold subscriptTail
  refine wpAny_bind ?_
  rw [getitemInPython_of_ne hT.not_modules]
  refine wpAny_bind (wpAny_specialOf hT hl ?_)
  have fin : wpAny (model prog w) A (subscripted slice false o i) (fun r s₃ => wpAny (model prog w) A (letTemporaryGo value o r >>= fun _ => pure r) Q E s₃) E s₂ := by
    rw [hs o i]
    exact wpAny_operating (wpAny_mono h₂ (fun r s₃ h₃ => wpAny_bind (wpAny_letTemporaryGo (wpAny_pure h₃))) fun _ _ x => x)
  first
    | exact wpAny_pure (wpAny_bind fin)
    | exact wpAny_bind (wpAny_pure (wpAny_bind fin))
    | exact wpAny_bind fin

theorem dict_typeIs {X : Cx} {pins : List (Addr × Obj)} {σ : St} {H : Hp} {s : Shared} {a : Addr} {y : V} {o : Option V} (I : Inv X pins σ H s) (g : DGet H a y o) : s.TypeIs (.ref a) "dict" := by
  rcases g with ⟨kvs, k, e, _, _⟩ | ⟨kvs, k, b, e, _, _, _⟩
  · obtain ⟨_, _, vs, _, dd⟩ := dk_rd I.hok e
    exact dd.typeIs
  · obtain ⟨_, _, xs, _, dd⟩ := dt_rd I.hok e
    exact dd.typeIs

/-- d[y] -/
def tDGet (td ty : TE) : TE := fun σ H Q => td σ H fun x H1 => ty σ H1 fun y H2 => ∃ a v, x = .ref a ∧ DGet H2 a y (some v) ∧ Q v H2
/-- y in d, y not in d -/
def tDIn (ty td : TE) : TE := fun σ H Q => ty σ H fun y H1 => td σ H1 fun x H2 => ∃ a o, x = .ref a ∧ DGet H2 a y o ∧ Q (.bl o.isSome) H2
/-- d[y] = v -/
def sDPut (td ty tv : TE) : TS := fun D σ H => tv σ H fun v H1 => td σ H1 fun x H2 => ty σ H2 fun y H3 => ∃ a H4, x = .ref a ∧ DPut H3 a y v H4 ∧ D.nx σ H4

section
variable {X : Cx} {o i e value : Expr} {pos pos' tpos : Pos} {td ty tv : TE}
theorem pe_dget (hu : X.A.units + 1 < cLine) (ho : PE X o td) (hi : PE X i ty) (hs : NoSl i) : PE X (.Subscript o i pos) (tDGet td ty) := by
  intro pins s σ H Q I h
  refine subD_of PySem.F.slot_dict_getitem.lookup hs (thn (ho pins s σ H _ I h) fun u s1 ⟨x, H1, I1, rx, q1⟩ => thn (hi pins s1 σ H1 _ I1 q1) fun iv s2 ⟨y, H2, I2, ry, a, v, ex, g, q2⟩ => ?_)
  subst ex
  obtain rfl : u = Value.ref a := rx
  exact ⟨dict_typeIs I2 g, d_getItem hu I2 g ry fun w' s3 I3 rw' => ⟨v, H2, I3, rw', q2⟩⟩
theorem pc_din (hu : X.A.units + 1 < cLine) (hi : PE X i ty) (ho : PE X o td) : PC X .In i o (tDIn ty td) := by
  intro pins s σ H Q I h
  refine thn (hi pins s σ H _ I h) fun iv s1 ⟨y, H1, I1, ry, q1⟩ => thn (ho pins s1 σ H1 _ I1 q1) fun u s2 ⟨x, H2, I2, rx, a, ov, ex, g, q2⟩ => ?_
  subst ex
  obtain rfl : u = Value.ref a := rx
  exact d_in hu I2 g ry fun s3 I3 => ⟨.bl ov.isSome, H2, I3, rfl, q2⟩
theorem ps_dput (hu : X.A.units + 1 < cLine) (ho : PE X o td) (hi : PE X i ty) (hv : PE X value tv) (hs : swapsWith value (some (.Subscript o i pos')) pos.line X.env = pure false) :
    PS X (.Assign [.Subscript o i pos'] value pos) (sDPut td ty tv) := by
  intro pins s σ H D I h
  refine wpAny_Assign_Subscript (thn (hv pins s σ H _ I h) fun r s1 ⟨v, H1, I1, rv, q1⟩ => thn (ho pins s1 σ H1 _ I1 q1) fun u s2 ⟨x, H2, I2, rx, q2⟩ => thn (hi pins s2 σ H2 _ I2 q2) fun iv s3 ⟨y, H3, I3, ry, a, H4, ex, g, q3⟩ => ?_) hs
  subst ex
  obtain rfl : u = Value.ref a := rx
  exact d_setItem hu I3 g ry rv fun s4 I4 => ⟨σ, H4, I4, q3⟩
end


/-! ### displays -/
theorem dk_empty {P : Program} {w : World} {H : Hp} (h : Heap) (hb : sysModules < h.objs.size) : ObjOk P w H (h.push { cls := .type "dict", data := .dict #[] }) h.objs.size (.dK []) :=
  ⟨Nat.zero_le _, beq_eq_false_iff_ne.mpr (Ne.symm (Nat.ne_of_lt hb)), [], .nil, Heap.DictOf.new h⟩
/-- {}, to be a dict of the kind that is wanted -/
def tDNewK : TE := fun _ H Q => ∀ p, H p = none → Q (.ref p) (upd H p (.dK []))
section
variable {X : Cx} {pos : Pos}
theorem pe_dnewK : PE X (.Dict [] [] pos) tDNewK := fun pins s σ H Q I h =>
  wpAny_Dict_empty ⟨.ref s.heap.objs.size, _, I.laid (a := s.heap.objs.size) (o := .dK []) (t' := s.toks) (fun _ _ q => Heap.get?_push_of_some _ q) (Nat.le_refl _) (dk_empty s.heap I.big), rfl, h _ (I.hok.fresh (Nat.le_refl _))⟩
end

/-- the pairs of a display, from the left -/
def tPairs : List (TE × TE) → St → Hp → (List (V × V) → Hp → Prop) → Prop
  | [], _, H, Q => Q [] H
  | (tk, tv) :: r, σ, H, Q => tk σ H fun x H1 => tv σ H1 fun y H2 => tPairs r σ H2 fun ps H3 => Q ((x, y) :: ps) H3
abbrev VV : List (V × V) → List (Value × Value) → Prop := Paired fun p q => RelV p.1 q.1 ∧ RelV p.2 q.2
def PPs (X : Cx) (pos : Pos) (keys : List (Option Expr)) (values : List Expr) (trs : List (TE × TE)) : Prop :=
  ∀ (pins : List (Addr × Obj)) (s : Shared) (σ : St) (H : Hp) (Q : List (V × V) → Hp → Prop), Inv X pins σ H s → tPairs trs σ H Q →
    wpAny (model X.prog X.w) X.A (evalPairs (pairTrees keys values X.env pos)) (fun vs s' => ∃ ps H', Inv X pins σ H' s' ∧ VV ps vs ∧ Q ps H') X.xe s
theorem pps_nil {X : Cx} {pos : Pos} : PPs X pos [] [] [] := fun pins s σ H Q I h => pairTrees_nil_walk ⟨[], H, I, .nil, h⟩
theorem pps_cons {X : Cx} {pos : Pos} {k v : Expr} {ks : List (Option Expr)} {vs : List Expr} {tk tv : TE} {trs : List (TE × TE)} (hk : PE X k tk) (hv : PE X v tv) (hr : PPs X pos ks vs trs) :
    PPs X pos (some k :: ks) (v :: vs) ((tk, tv) :: trs) := fun pins s σ H Q I h =>
  pairTrees_cons_walk (thn (hk pins s σ H _ I h) fun u s1 ⟨x, H1, I1, rx, q1⟩ => thn (hv pins s1 σ H1 _ I1 q1) fun w2 s2 ⟨y, H2, I2, ry, q2⟩ =>
    thn (hr pins s2 σ H2 _ I2 q2) fun ws s3 ⟨ps, H3, I3, rel, q3⟩ => ⟨(x, y) :: ps, H3, I3, .cons ⟨rx, ry⟩ rel, q3⟩)

def mergeK (kvs more : List (Key × V)) : List (Key × V) := more.foldl (fun acc kv => putK acc kv.1 kv.2) kvs
theorem KV.merge : ∀ {more : List (Key × V)} {rs : List (Key × Value)} {kvs : List (Key × V)} {vs : List (Key × Value)}, KV more rs → KV kvs vs → KV (mergeK kvs more) (merged vs rs) := by
  intro more rs kvs vs r
  unfold KV at r
  induction r generalizing kvs vs with
  | nil => intro q; exact q
  | @cons p q ps qs h t ih =>
    intro r0
    have e : KV (putK kvs p.1 p.2) (stored vs q.1 q.2) := by
      have := r0.put p.1 h.2
      rw [← h.1]; exact this
    exact ih e
theorem length_mergeK : ∀ (more kvs : List (Key × V)), (mergeK kvs more).length ≤ kvs.length + more.length
  | [], kvs => by show kvs.length ≤ kvs.length + 0; omega
  | p :: r, kvs => by
    have h1 := length_mergeK r (putK kvs p.1 p.2)
    have h2 := length_putK kvs p.1 p.2
    show (mergeK (putK kvs p.1 p.2) r).length ≤ _
    rw [List.length_cons]; omega
theorem carries_of {P : Program} {w : World} : ∀ {kvs : List (Key × V)} {ws : List (Value × Value)}, VV (kvs.map fun kv => (kV kv.1, kv.2)) ws → ∃ rs, Carries (mixKind P w) ws rs ∧ KV kvs rs
  | [], _, r => by rw [List.map_nil] at r; cases r; exact ⟨[], True.intro, .nil⟩
  | p :: kvs, _, r => by
    rw [List.map_cons] at r
    cases r with
    | @cons a b as bs h t =>
      obtain ⟨rs, c, q⟩ := carries_of (P := P) (w := w) t
      obtain ⟨b1, b2⟩ := b
      exact ⟨(p.1, b2) :: rs, ⟨kV_is h.1, rfl, c⟩, .cons ⟨rfl, h.2⟩ q⟩
/-- {k: v, ..} with keys ints and texts; the new dict stands empty while the pairs are made -/
def tDisp (trs : List (TE × TE)) : TE := fun σ H Q => ∀ p, H p = none → tPairs trs σ (upd H p (.dK [])) fun ps H2 => H2 p = some (.dK []) ∧ ∃ kvs : List (Key × V), ps = kvs.map (fun kv => (kV kv.1, kv.2)) ∧ kvs.length ≤ 15 ∧ Q (.ref p) (upd H2 p (.dK (mergeK [] kvs)))
theorem pe_disp {X : Cx} {pos : Pos} {keys : List (Option Expr)} {values : List Expr} {trs : List (TE × TE)} (h : PPs X pos keys values trs) (hall : keys.all (·.isSome) = true) (hl : keys.length = values.length) (h0 : keys ≠ [])
    (h15 : keys.length ≤ 15) : PE X (.Dict keys values pos) (tDisp trs) := by
  intro pins s σ H Q I q
  have hn := I.hok.fresh (Nat.le_refl s.heap.objs.size)
  have I1 := I.laid (a := s.heap.objs.size) (o := .dK []) (h' := s.heap.push { cls := .type "dict", data := .dict #[] }) (t' := s.toks) (fun _ _ q => Heap.get?_push_of_some _ q) (Nat.le_refl _) (dk_empty s.heap I.big)
  refine wpAny_Dict_walk (knd := mixKind X.prog X.w) hall hl h0 h15 (thn (h pins _ σ _ _ I1 (q _ hn)) fun ws s2 ⟨ps, H2, I2, rel, e, kvs, ep, lk, q2⟩ => ?_)
  subst ep
  obtain ⟨rs, c, rk⟩ := carries_of (P := X.prog) (w := X.w) rel
  obtain ⟨z, hd, vs0, r0, dd⟩ := dk_of I2.hok e
  cases r0
  refine ⟨rs, c, dd, fun h' dd' hs => ⟨.ref s.heap.objs.size, _, ?_, rfl, q2⟩⟩
  have hz : (mergeK [] kvs).length ≤ sizeLine := by
    have h1 := length_mergeK kvs []
    rw [List.length_nil] at h1
    rw [sizeLine_eq]; omega
  have he : ∃ q, h'.get? s.heap.objs.size = some q := let ⟨q, _, _, hq, _⟩ := dd'; ⟨q, hq⟩
  exact d_write I2 (by rw [e]; exact True.intro) hs he (dk_new hz hd (rk.merge .nil) dd')


/-! ### methods -/
/-- a method call o.m(e) of a built-in, with one argument: what must be seen of the text -/
structure M1 (X : Cx) (o : Expr) (m : Str) (apos : Pos) (e : Expr) (cpos : Pos) : Prop where
  base : attributeBase o m X.env (eval o X.env) = eval o X.env
  few : ((backTo cpos (starEach [e] X.env)).all (fun x => !x.1) && (backToKw cpos (keywordEach [] X.env)).all (fun x => x.1.isSome)
    && decide (([e] : List Expr).length + ([] : List Keyword).length + (if ([] : List Keyword).isEmpty then 0 else 1) < 30)) = true
  line : (apos.endLine == cpos.line) = true
  trees : backTo cpos (starEach [e] X.env) = [(false, eval e X.env)]
structure M2 (X : Cx) (o : Expr) (m : Str) (apos : Pos) (e f : Expr) (cpos : Pos) : Prop where
  base : attributeBase o m X.env (eval o X.env) = eval o X.env
  few : ((backTo cpos (starEach [e, f] X.env)).all (fun x => !x.1) && (backToKw cpos (keywordEach [] X.env)).all (fun x => x.1.isSome)
    && decide (([e, f] : List Expr).length + ([] : List Keyword).length + (if ([] : List Keyword).isEmpty then 0 else 1) < 30)) = true
  line : (apos.endLine == cpos.line) = true
  trees : backTo cpos (starEach [e, f] X.env) = [(false, eval e X.env), (false, eval f X.env)]

/-- a is a dict, whatever its keys -/
def IsD (H : Hp) (a : Addr) : Prop := (∃ kvs, Rd H a (.dK kvs)) ∨ ∃ kvs, Rd H a (.dT kvs)
theorem isD_at {X : Cx} {pins : List (Addr × Obj)} {σ : St} {H : Hp} {s : Shared} {a : Addr} (I : Inv X pins σ H s) (d : IsD H a) :
    s.TypeIs (.ref a) "dict" ∧ (∀ b, Value.ref a = .ref b → ∃ ob, s.heap.get? b = some ob ∧ ob.dict = none) ∧ (a == sysModules) = false := by
  rcases d with ⟨kvs, e⟩ | ⟨kvs, e⟩
  · obtain ⟨_, hd, vs, _, dd⟩ := dk_rd I.hok e
    refine ⟨dd.typeIs, fun b q => ?_, hd⟩
    cases q
    obtain ⟨ob, _, _, h1, h2, _⟩ := dd
    exact ⟨ob, h1, h2.2.1⟩
  · obtain ⟨_, hd, xs, _, dd⟩ := dt_rd I.hok e
    refine ⟨dd.typeIs, fun b q => ?_, hd⟩
    cases q
    obtain ⟨ob, _, _, h1, h2, _⟩ := dd
    exact ⟨ob, h1, h2.2.1⟩

section
variable {X : Cx} {pins : List (Addr × Obj)} {σ : St} {H : Hp} {s : Shared} {a : Addr} {y d : V} {u r : Value} {o : Option V} {A : Around} {E : Value → Shared → Prop}
/-- d.get(y) -/
theorem d_get1 {Q : Value → Shared → Prop} (hu : A.units + 1 < cLine) (I : Inv X pins σ H s) (g : DGet H a y o) (ry : RelV y u) (h : ∀ w' s', Inv X pins σ H s' → RelV (o.getD .non) w' → Q w' s') :
    wpAny (model X.prog X.w) A (call (.builtin "dict.get") [.ref a, u]) Q E s := by
  rcases g with ⟨kvs, k, e, ey, l⟩ | ⟨kvs, k, b, e, ey, eb, l⟩
  · subst ey
    obtain ⟨z, hd, vs, rel, dd⟩ := dk_rd I.hok e
    refine call_meetsIn PySem.F.slot_dict_get dd.typeIs PySem.F.entry_dict_get (PySem.F.args_dict_get_2 _ _) (meets_dict_get (mixKind X.prog X.w) a (kV_is ry) hd) ⟨_, dd.mapOf, h _ _ (I.tok _) ?_⟩
    rw [l]
    exact (rel.val k).getD rfl
  · subst ey
    cases (show u = Value.ref b from ry)
    obtain ⟨z, hd, xs, rel, dd⟩ := dt_rd I.hok e
    refine call_meetsIn PySem.F.slot_dict_get dd.typeIs PySem.F.entry_dict_get (PySem.F.args_dict_get_2 _ _) (meetsH_dict_get (tupleKind (mixKind X.prog X.w)) a b hd) ⟨tupleKind_room_in1 hu, k, xs, key_of I.hok eb, dd, h _ _ (I.tok _) ?_⟩
    rw [l]
    exact (rel.val k).getD rfl
/-- d.get(y, x) -/
theorem d_get2 {Q : Value → Shared → Prop} (hu : A.units + 1 < cLine) (I : Inv X pins σ H s) (g : DGet H a y o) (ry : RelV y u) (rd : RelV d r) (h : ∀ w' s', Inv X pins σ H s' → RelV (o.getD d) w' → Q w' s') :
    wpAny (model X.prog X.w) A (call (.builtin "dict.get") [.ref a, u, r]) Q E s := by
  rcases g with ⟨kvs, k, e, ey, l⟩ | ⟨kvs, k, b, e, ey, eb, l⟩
  · subst ey
    obtain ⟨z, hd, vs, rel, dd⟩ := dk_rd I.hok e
    refine call_meetsIn PySem.F.slot_dict_get dd.typeIs PySem.F.entry_dict_get (PySem.F.args_dict_get_3 _ _ _) (meets_dict_get_default (mixKind X.prog X.w) a (kV_is ry) hd r) ⟨_, dd.mapOf, h _ _ (I.tok _) ?_⟩
    rw [l]
    exact (rel.val k).getD rd
  · subst ey
    cases (show u = Value.ref b from ry)
    obtain ⟨z, hd, xs, rel, dd⟩ := dt_rd I.hok e
    refine call_meetsIn PySem.F.slot_dict_get dd.typeIs PySem.F.entry_dict_get (PySem.F.args_dict_get_3 _ _ _) (meetsH_dict_get_default (tupleKind (mixKind X.prog X.w)) a b hd r) ⟨tupleKind_room_in1 hu, k, xs, key_of I.hok eb, dd, h _ _ (I.tok _) ?_⟩
    rw [l]
    exact (rel.val k).getD rd
end

def tDGet1 (td ty : TE) : TE := fun σ H Q => td σ H fun x H1 => ∃ a, x = .ref a ∧ IsD H1 a ∧ ty σ H1 fun y H2 => ∃ o, DGet H2 a y o ∧ Q (o.getD .non) H2
def tDGet2 (td ty tx : TE) : TE := fun σ H Q => td σ H fun x H1 => ∃ a, x = .ref a ∧ IsD H1 a ∧ ty σ H1 fun y H2 => tx σ H2 fun z H3 => ∃ o, DGet H3 a y o ∧ Q (o.getD z) H3
/-- d.pop(k): there; d.pop(k, x): there or not -/
def tDPop1 (td ty : TE) : TE := fun σ H Q => td σ H fun x H1 => ∃ a, x = .ref a ∧ IsD H1 a ∧ ty σ H1 fun y H2 => ∃ kvs k v, H2 a = some (.dK kvs) ∧ y = kV k ∧ valV kvs k = some v ∧ Q v (upd H2 a (.dK (dropK kvs k)))
section
variable {X : Cx} {o e f : Expr} {apos cpos : Pos} {td ty tx : TE}
theorem pe_dget1 (hu : X.A.units + 1 < cLine) (ho : PE X o td) (he : PE X e ty) (m : M1 X o "get" apos e cpos) : PE X (.Call (.Attribute o "get" apos) [e] [] cpos) (tDGet1 td ty) := by
  intro pins s σ H Q I h
  refine wpAny_Call_method m.base m.few m.line PySem.F.plainAttrs_dict PySem.F.slot_dict_get PySem.F.type_dict_get (thn (ho pins s σ H _ I h) fun u s1 ⟨x, H1, I1, rx, a, ex, d, q1⟩ => ?_)
  subst ex
  obtain rfl : u = Value.ref a := rx
  obtain ⟨t1, t2, _⟩ := isD_at I1 d
  refine ⟨t1, t2, ?_⟩
  rw [m.trees]
  refine Calls.callWith_builtin rfl (Calls.evalArgs_plain (Calls.spliced_cons (thn (he pins s1 σ H1 _ I1 q1) fun iv s2 ⟨y, H2, I2, ry, ov, g, q2⟩ => Calls.spliced_nil ?_)))
  exact d_get1 hu I2 g ry fun w' s3 I3 rw' => ⟨_, H2, I3, rw', q2⟩
theorem pe_dget2 (hu : X.A.units + 1 < cLine) (ho : PE X o td) (he : PE X e ty) (hf : PE X f tx) (m : M2 X o "get" apos e f cpos) : PE X (.Call (.Attribute o "get" apos) [e, f] [] cpos) (tDGet2 td ty tx) := by
  intro pins s σ H Q I h
  refine wpAny_Call_method m.base m.few m.line PySem.F.plainAttrs_dict PySem.F.slot_dict_get PySem.F.type_dict_get (thn (ho pins s σ H _ I h) fun u s1 ⟨x, H1, I1, rx, a, ex, d, q1⟩ => ?_)
  subst ex
  obtain rfl : u = Value.ref a := rx
  obtain ⟨t1, t2, _⟩ := isD_at I1 d
  refine ⟨t1, t2, ?_⟩
  rw [m.trees]
  refine Calls.callWith_builtin rfl (Calls.evalArgs_plain (Calls.spliced_cons (thn (he pins s1 σ H1 _ I1 q1) fun iv s2 ⟨y, H2, I2, ry, q2⟩ =>
    Calls.spliced_cons (thn (hf pins s2 σ H2 _ I2 q2) fun fv s3 ⟨z, H3, I3, rz, ov, g, q3⟩ => Calls.spliced_nil ?_))))
  exact d_get2 hu I3 g ry rz fun w' s4 I4 rw' => ⟨_, H3, I4, rw', q3⟩
theorem pe_dpop1 (ho : PE X o td) (he : PE X e ty) (m : M1 X o "pop" apos e cpos) : PE X (.Call (.Attribute o "pop" apos) [e] [] cpos) (tDPop1 td ty) := by
  intro pins s σ H Q I h
  refine wpAny_Call_method m.base m.few m.line PySem.F.plainAttrs_dict PySem.F.slot_dict_pop PySem.F.type_dict_pop (thn (ho pins s σ H _ I h) fun u s1 ⟨x, H1, I1, rx, a, ex, d, q1⟩ => ?_)
  subst ex
  obtain rfl : u = Value.ref a := rx
  obtain ⟨t1, t2, _⟩ := isD_at I1 d
  refine ⟨t1, t2, ?_⟩
  rw [m.trees]
  refine Calls.callWith_builtin rfl (Calls.evalArgs_plain (Calls.spliced_cons (thn (he pins s1 σ H1 _ I1 q1) fun iv s2 ⟨y, H2, I2, ry, kvs, k, v, ea, ey, l, q2⟩ => Calls.spliced_nil ?_)))
  subst ey
  exact d_pop I2 ea ry l (.inl rfl) fun w' s3 I3 rw' => ⟨v, _, I3, rw', q2⟩
end

/-! ### dict(d): a copy -/
section
variable {X : Cx} {pins : List (Addr × Obj)} {σ : St} {H : Hp} {s : Shared} {a : Addr} {kvs : List (Key × V)} {A : Around} {E : Value → Shared → Prop}
end


section
variable {X : Cx} {pins : List (Addr × Obj)} {σ : St} {H : Hp} {s : Shared} {a : Addr} {y : V} {u : Value} {A : Around} {E : Value → Shared → Prop}
end
end L2

set_option Elab.async false
set_option linter.all false
namespace L2
/-! what patterns begin with: a table of names -/
def bT (ns : List (List Nat)) : List (Key × V) := ns.map fun z => ((Sum.inr (S z) : Key), V.bl true)
def addN (ns : List (List Nat)) (z : List Nat) : List (List Nat) := if z ∈ ns then ns else ns ++ [z]
def begS (ns : List (List Nat)) (s : List Nat) (k : Nat) : List (List Nat) := (List.range k).foldl (fun ns j => addN ns (s.take (j + 1))) ns
def begA (ns : List (List Nat)) (xs : List Pat) : List (List Nat) := xs.foldl (fun ns x => begS ns x.1 x.1.length) ns
/-- every beginning of these, the empty one first -/
def begs (xs : List Pat) : List (List Nat) := begA [[]] xs
theorem kS_inj {a b : List Nat} (h : (Sum.inr (S a) : Key) = Sum.inr (S b)) : a = b := by
  injection h with h
  exact S_inj h
theorem bT_any (ns : List (List Nat)) (z : List Nat) : ((bT ns).any fun kv => decide (kv.1 = (Sum.inr (S z) : Key))) = decide (z ∈ ns) := by
  unfold bT
  rw [List.any_map, Bool.eq_iff_iff, List.any_eq_true, decide_eq_true_iff]
  constructor
  · rintro ⟨y, hy, e⟩
    have := kS_inj (of_decide_eq_true e)
    rw [← this]; exact hy
  · intro hz
    exact ⟨z, hz, decide_eq_true rfl⟩
theorem bT_put (ns : List (List Nat)) (z : List Nat) : putK (bT ns) (Sum.inr (S z)) (.bl true) = bT (addN ns z) := by
  unfold putK addN
  rw [bT_any]
  by_cases h : z ∈ ns
  · rw [if_pos (decide_eq_true h), if_pos h]
    unfold bT
    rw [List.map_map]
    apply List.map_congr_left
    intro y _
    show (if (Sum.inr (S y) : Key) = Sum.inr (S z) then ((Sum.inr (S y) : Key), V.bl true) else ((Sum.inr (S y) : Key), V.bl true)) = _
    rw [ite_self]
  · rw [if_neg (by rw [decide_eq_false h]; exact Bool.false_ne_true), if_neg h]
    unfold bT
    rw [List.map_append]; rfl
theorem bT_val (ns : List (List Nat)) (z : List Nat) : valV (bT ns) (Sum.inr (S z)) = if z ∈ ns then some (.bl true) else none := by
  induction ns with
  | nil => rfl
  | cons y ns ih =>
    show valV (((Sum.inr (S y) : Key), V.bl true) :: bT ns) _ = _
    by_cases e : y = z
    · rw [valV_pos (p := ((Sum.inr (S y) : Key), V.bl true)) (by rw [e]), if_pos (by rw [e]; exact List.mem_cons_self)]
    · rw [valV_neg (p := ((Sum.inr (S y) : Key), V.bl true)) (fun h => e (kS_inj h)), ih]
      by_cases h : z ∈ ns
      · rw [if_pos h, if_pos (List.mem_cons_of_mem _ h)]
      · rw [if_neg h, if_neg (fun q => (List.mem_cons.mp q).elim (fun q => e q.symm) h)]
theorem mem_addN {ns : List (List Nat)} {z y : List Nat} : y ∈ addN ns z ↔ y ∈ ns ∨ y = z := by
  unfold addN
  split
  · rename_i h
    exact ⟨.inl, fun q => q.elim id fun q => q ▸ h⟩
  · rw [List.mem_append, List.mem_singleton]
theorem len_addN (ns : List (List Nat)) (z : List Nat) : (addN ns z).length ≤ ns.length + 1 := by
  unfold addN
  split
  · omega
  · simp
theorem begS_succ (ns : List (List Nat)) (s : List Nat) (k : Nat) : begS ns s (k + 1) = addN (begS ns s k) (s.take (k + 1)) := by
  unfold begS; rw [List.range_succ, List.foldl_append]; rfl
theorem mem_begS {ns : List (List Nat)} {s y : List Nat} : ∀ {k : Nat}, y ∈ begS ns s k ↔ y ∈ ns ∨ ∃ e, 1 ≤ e ∧ e ≤ k ∧ y = s.take e
  | 0 => by
    show y ∈ ns ↔ _
    exact ⟨.inl, fun q => q.elim id fun ⟨e, a, b, _⟩ => by omega⟩
  | k + 1 => by
    rw [begS_succ, mem_addN, mem_begS]
    constructor
    · rintro ((h | ⟨e, a, b, c⟩) | h)
      · exact .inl h
      · exact .inr ⟨e, a, by omega, c⟩
      · exact .inr ⟨k + 1, by omega, by omega, h⟩
    · rintro (h | ⟨e, a, b, c⟩)
      · exact .inl (.inl h)
      · by_cases z : e = k + 1
        · exact .inr (z ▸ c)
        · exact .inl (.inr ⟨e, a, by omega, c⟩)
theorem len_begS (ns : List (List Nat)) (s : List Nat) : ∀ k : Nat, (begS ns s k).length ≤ ns.length + k
  | 0 => Nat.le_refl _
  | k + 1 => by
    rw [begS_succ]
    have := len_addN (begS ns s k) (s.take (k + 1))
    have := len_begS ns s k
    omega
theorem begA_snoc (ns : List (List Nat)) (xs : List Pat) (x : Pat) : begA ns (xs ++ [x]) = begS (begA ns xs) x.1 x.1.length := by
  unfold begA; rw [List.foldl_append]; rfl
theorem mem_begA {y : List Nat} : ∀ {xs : List Pat} {ns : List (List Nat)}, y ∈ begA ns xs ↔ y ∈ ns ∨ ∃ x ∈ xs, ∃ e, 1 ≤ e ∧ e ≤ x.1.length ∧ y = x.1.take e
  | [], ns => by
    show y ∈ ns ↔ _
    exact ⟨.inl, fun q => q.elim id fun ⟨x, hx, _⟩ => nomatch hx⟩
  | x :: xs, ns => by
    show y ∈ begA (begS ns x.1 x.1.length) xs ↔ _
    rw [mem_begA, mem_begS]
    constructor
    · rintro ((h | h) | ⟨z, hz, h⟩)
      · exact .inl h
      · exact .inr ⟨x, List.mem_cons_self, h⟩
      · exact .inr ⟨z, List.mem_cons_of_mem _ hz, h⟩
    · rintro (h | ⟨z, hz, h⟩)
      · exact .inl (.inl h)
      · rcases List.mem_cons.mp hz with rfl | hz
        · exact .inl (.inr h)
        · exact .inr ⟨z, hz, h⟩
theorem mem_begs {xs : List Pat} {y : List Nat} : y ∈ begs xs ↔ y = [] ∨ ∃ x ∈ xs, ∃ e, 1 ≤ e ∧ e ≤ x.1.length ∧ y = x.1.take e := by
  unfold begs; rw [mem_begA, List.mem_singleton]
theorem len_begA {c : Nat} : ∀ (xs : List Pat) (ns : List (List Nat)), (∀ x ∈ xs, x.1.length ≤ c) → (begA ns xs).length ≤ ns.length + xs.length * c
  | [], ns, _ => by show ns.length ≤ _; simp
  | x :: xs, ns, h => by
    have h1 := len_begA xs (begS ns x.1 x.1.length) fun y hy => h y (List.mem_cons_of_mem _ hy)
    have h2 := len_begS ns x.1 x.1.length
    have h3 := h x List.mem_cons_self
    show (begA (begS ns x.1 x.1.length) xs).length ≤ _
    rw [List.length_cons, Nat.succ_mul]
    omega
end L2

set_option Elab.async false
set_option linter.all false
namespace L2
/-- a table of numbers by signs -/
def NT (H : Hp) : List (Key × V) → List Pat → Prop
  | [], [] => True
  | kv :: kvs, g :: gs => kv.1 = Sum.inr (S g.1) ∧ (∃ t, kv.2 = .ref t ∧ H t = some (.tup (g.2.map V.int))) ∧ NT H kvs gs
  | _, _ => False
def lookP (gs : List Pat) (z : List Nat) : Option Pat := gs.find? fun g => decide (g.1 = z)
theorem NT.val {H : Hp} {z : List Nat} : ∀ {kvs : List (Key × V)} {gs : List Pat}, NT H kvs gs → (lookP gs z = none ∧ valV kvs (Sum.inr (S z)) = none) ∨ ∃ g t, lookP gs z = some g ∧ g ∈ gs ∧ g.1 = z ∧ valV kvs (Sum.inr (S z)) = some (.ref t) ∧ H t = some (.tup (g.2.map V.int))
  | [], [], _ => .inl ⟨rfl, rfl⟩
  | [], _ :: _, h => h.elim
  | _ :: _, [], h => h.elim
  | kv :: kvs, g :: gs, h => by
    obtain ⟨h1, ⟨t, h2, h3⟩, h4⟩ := h
    by_cases e : g.1 = z
    · refine .inr ⟨g, t, ?_, List.mem_cons_self, e, ?_, h3⟩
      · unfold lookP; rw [List.find?_cons, decide_eq_true e]
      · rw [valV_pos (by rw [h1, e]), h2]
    · have hl : lookP (g :: gs) z = lookP gs z := by unfold lookP; rw [List.find?_cons, decide_eq_false e]
      have hv : valV (kv :: kvs) (Sum.inr (S z)) = valV kvs (Sum.inr (S z)) := valV_neg fun q => e (kS_inj (h1.symm.trans q))
      rw [hl, hv]
      rcases NT.val (z := z) h4 with q | ⟨g', t', a, b, c, d, f⟩
      · exact .inl q
      · exact .inr ⟨g', t', a, List.mem_cons_of_mem _ b, c, d, f⟩
theorem NT.same {H H' : Hp} (s : Same H H') : ∀ {kvs : List (Key × V)} {gs : List Pat}, NT H kvs gs → NT H' kvs gs
  | [], [], _ => trivial
  | [], _ :: _, h => h.elim
  | _ :: _, [], h => h.elim
  | kv :: kvs, g :: gs, h => by
    obtain ⟨h1, ⟨t, h2, h3⟩, h4⟩ := h
    exact ⟨h1, ⟨t, h2, s _ _ h3⟩, NT.same s h4⟩
/-- what is told at the end of a text, so many places back -/
def tAE (gs : List Pat) (x : List Nat) (back k : Nat) : Int :=
  (List.range k).foldl (fun m j => match lookP gs (x.drop (x.length - (back + j))) with | some g => mx m (g.2.getD j 0) | none => m) 0
theorem tAE_succ (gs : List Pat) (x : List Nat) (back k : Nat) : tAE gs x back (k + 1) = match lookP gs (x.drop (x.length - (back + k))) with | some g => mx (tAE gs x back k) (g.2.getD k 0) | none => tAE gs x back k := by
  unfold tAE; rw [List.range_succ, List.foldl_append]; rfl
end L2

set_option Elab.async false
set_option linter.all false
namespace L2
open PySem
/-! the greatest numbers by signs -/
def zipMx : List Int → List Int → List Int
  | a :: as, b :: bs => mx a b :: zipMx as bs
  | _, _ => []
theorem zipMx_len : ∀ {a b : List Int}, a.length = b.length → (zipMx a b).length = a.length
  | [], [], _ => rfl
  | [], _ :: _, h => by simp at h
  | _ :: _, [], h => by simp at h
  | a :: as, b :: bs, h => by simp only [zipMx, List.length_cons]; rw [zipMx_len (by simpa using h)]
theorem zipMx_get : ∀ {a b : List Int} {i : Nat} (h1 : i < a.length) (h2 : i < b.length), (zipMx a b)[i]? = some (mx a[i] b[i])
  | a :: as, b :: bs, 0, _, _ => rfl
  | a :: as, b :: bs, i + 1, h1, h2 => by
    have h1' : i < as.length := by simpa using h1
    have h2' : i < bs.length := by simpa using h2
    simp only [zipMx, List.getElem?_cons_succ, List.getElem_cons_succ]
    exact zipMx_get h1' h2'
theorem zipMx_take {a b : List Int} {i : Nat} (h1 : i < a.length) (h2 : i < b.length) : (zipMx a b).take (i + 1) = (zipMx a b).take i ++ [mx a[i] b[i]] := by
  rw [List.take_succ, zipMx_get h1 h2]; rfl
/-- in its place, or at the end -/
def putG (gs : List Pat) (s : List Nat) (ns : List Int) : List Pat :=
  if (gs.any fun g => decide (g.1 = s)) = true then gs.map (fun g => if g.1 = s then (g.1, ns) else g) else gs ++ [(s, ns)]
def grtS (gs : List Pat) (x : Pat) : List Pat := putG gs x.1 (zipMx (((lookP gs x.1).map (·.2)).getD x.2) x.2)
def grt (xs : List Pat) : List Pat := xs.foldl grtS []
theorem grt_snoc (xs : List Pat) (x : Pat) : grt (xs ++ [x]) = grtS (grt xs) x := by unfold grt; rw [List.foldl_append]; rfl
theorem NT.anyK {H : Hp} {s : List Nat} : ∀ {kvs : List (Key × V)} {gs : List Pat}, NT H kvs gs → (kvs.any fun kv => decide (kv.1 = (Sum.inr (S s) : Key))) = gs.any fun g => decide (g.1 = s)
  | [], [], _ => rfl
  | [], _ :: _, h => h.elim
  | _ :: _, [], h => h.elim
  | kv :: kvs, g :: gs, h => by
    obtain ⟨h1, _, h4⟩ := h
    rw [List.any_cons, List.any_cons, NT.anyK h4]
    congr 1
    rw [h1]
    by_cases e : g.1 = s
    · rw [decide_eq_true e, decide_eq_true (by rw [e])]
    · rw [decide_eq_false e, decide_eq_false fun q => e (kS_inj q)]
theorem NT.append {H : Hp} : ∀ {kvs kvs' : List (Key × V)} {gs gs' : List Pat}, NT H kvs gs → NT H kvs' gs' → NT H (kvs ++ kvs') (gs ++ gs')
  | [], _, [], _, _, h => h
  | [], _, _ :: _, _, h, _ => h.elim
  | _ :: _, _, [], _, h, _ => h.elim
  | kv :: kvs, _, g :: gs, _, h, h' => ⟨h.1, h.2.1, NT.append h.2.2 h'⟩
theorem NT.mapP {H : Hp} {s : List Nat} {ns : List Int} {t : Addr} (ht : H t = some (.tup (ns.map V.int))) : ∀ {kvs : List (Key × V)} {gs : List Pat}, NT H kvs gs → NT H (kvs.map fun kv => if kv.1 = (Sum.inr (S s) : Key) then (kv.1, .ref t) else kv) (gs.map fun g => if g.1 = s then (g.1, ns) else g)
  | [], [], _ => trivial
  | [], _ :: _, h => h.elim
  | _ :: _, [], h => h.elim
  | kv :: kvs, g :: gs, h => by
    obtain ⟨h1, h2, h4⟩ := h
    rw [List.map_cons, List.map_cons]
    by_cases e : g.1 = s
    · rw [if_pos e, if_pos (by rw [h1, e])]
      exact ⟨h1, ⟨t, rfl, ht⟩, NT.mapP ht h4⟩
    · rw [if_neg e, if_neg (by rw [h1]; exact fun q => e (kS_inj q))]
      exact ⟨h1, h2, NT.mapP ht h4⟩
theorem NT.put {H : Hp} {s : List Nat} {ns : List Int} {t : Addr} {kvs : List (Key × V)} {gs : List Pat} (h : NT H kvs gs) (ht : H t = some (.tup (ns.map V.int))) : NT H (putK kvs (Sum.inr (S s)) (.ref t)) (putG gs s ns) := by
  unfold putK putG
  rw [h.anyK]
  split
  · exact h.mapP ht
  · exact h.append ⟨rfl, ⟨t, rfl, ht⟩, trivial⟩
theorem NT.tups {H H' : Hp} (hk : ∀ b zs, H b = some (.tup zs) → H' b = some (.tup zs)) : ∀ {kvs : List (Key × V)} {gs : List Pat}, NT H kvs gs → NT H' kvs gs
  | [], [], _ => trivial
  | [], _ :: _, h => h.elim
  | _ :: _, [], h => h.elim
  | kv :: kvs, g :: gs, h => by
    obtain ⟨h1, ⟨t, h2, h3⟩, h4⟩ := h
    exact ⟨h1, ⟨t, h2, hk _ _ h3⟩, NT.tups hk h4⟩
theorem mem_putG {gs : List Pat} {s : List Nat} {ns : List Int} {g : Pat} (h : g ∈ putG gs s ns) : g ∈ gs ∨ g = (s, ns) := by
  unfold putG at h
  split at h
  · obtain ⟨g', hg', e⟩ := List.mem_map.mp h
    split at e
    · rename_i q
      right
      rw [← e, q]
    · left; rw [← e]; exact hg'
  · rcases List.mem_append.mp h with h | h
    · exact .inl h
    · right; simpa using h
theorem lookP_mem {gs : List Pat} {z : List Nat} {g : Pat} (h : lookP gs z = some g) : g ∈ gs ∧ g.1 = z := ⟨List.mem_of_find?_eq_some h, by have := List.find?_some h; simpa using this⟩
/-- as many numbers as signs and one -/
theorem grt_ok : ∀ {xs : List Pat} {gs : List Pat}, (∀ g ∈ gs, g.2.length = g.1.length + 1) → (∀ x ∈ xs, x.2.length = x.1.length + 1) → ∀ g ∈ xs.foldl grtS gs, g.2.length = g.1.length + 1
  | [], gs, h, _ => h
  | x :: xs, gs, h, hx => by
    refine grt_ok (xs := xs) (gs := grtS gs x) (fun g hg => ?_) fun y hy => hx y (List.mem_cons_of_mem _ hy)
    rcases mem_putG hg with q | q
    · exact h g q
    · rw [q]
      have hxx := hx x List.mem_cons_self
      show (zipMx _ _).length = _
      have hl : (((lookP gs x.1).map (·.2)).getD x.2).length = x.2.length := by
        cases e : lookP gs x.1 with
        | none => rfl
        | some g' =>
          obtain ⟨q1, q2⟩ := lookP_mem e
          show g'.2.length = _
          rw [h g' q1, q2, hxx]
      rw [zipMx_len hl, hl, hxx]
end L2

set_option Elab.async false
set_option linter.all false
namespace L2
/-! ### the longest end that begins some pattern -/
def tailOf (B : List (List Nat)) : List Nat → List Nat
  | [] => []
  | c :: r => if (c :: r) ∈ B then c :: r else tailOf B r
theorem tailOf_suf (B : List (List Nat)) : ∀ t, tailOf B t <:+ t
  | [] => List.suffix_refl _
  | c :: r => by
    unfold tailOf
    split
    · exact List.suffix_refl _
    · exact (tailOf_suf B r).trans (List.suffix_cons c r)
theorem tailOf_mem {B : List (List Nat)} (h : [] ∈ B) : ∀ t, tailOf B t ∈ B
  | [] => h
  | c :: r => by
    unfold tailOf
    split
    · assumption
    · exact tailOf_mem h r
theorem tailOf_max {B : List (List Nat)} {s : List Nat} (hB : s ∈ B) : ∀ {t : List Nat}, s <:+ t → s <:+ tailOf B t
  | [], h => h
  | c :: r, h => by
    unfold tailOf
    split
    · exact h
    · rename_i hn
      rcases List.suffix_cons_iff.mp h with e | e
      · exact absurd (e ▸ hB) hn
      · exact tailOf_max hB e
theorem suffix_snoc {s t : List Nat} {d c : Nat} : s ++ [d] <:+ t ++ [c] ↔ d = c ∧ s <:+ t := by
  constructor
  · rintro ⟨p, hp⟩
    rw [← List.append_assoc] at hp
    obtain ⟨h1, h2⟩ := List.append_inj' hp rfl
    exact ⟨by simpa using h2, p, h1⟩
  · rintro ⟨rfl, p, hp⟩
    exact ⟨p, by rw [← List.append_assoc, hp]⟩
theorem suffix_antisymm {s t : List Nat} (h1 : s <:+ t) (h2 : t <:+ s) : s = t := h1.eq_of_length (Nat.le_antisymm h1.length_le h2.length_le)
theorem snoc_cases : ∀ (u : List Nat), u = [] ∨ ∃ s d, u = s ++ [d]
  | [] => .inl rfl
  | c :: r => .inr ⟨(c :: r).dropLast, (c :: r).getLast (by simp), (List.dropLast_concat_getLast (by simp)).symm⟩
theorem tailOf_snoc {B : List (List Nat)} (h0 : [] ∈ B) (hc : ∀ s d, s ++ [d] ∈ B → s ∈ B) (t : List Nat) (c : Nat) : tailOf B (t ++ [c]) = tailOf B (tailOf B t ++ [c]) := by
  apply suffix_antisymm
  · have hu := tailOf_mem h0 (t ++ [c])
    have hs := tailOf_suf B (t ++ [c])
    rcases snoc_cases (tailOf B (t ++ [c])) with e | ⟨s, d, e⟩
    · rw [e]; exact List.nil_suffix
    · rw [e] at hu hs ⊢
      obtain ⟨rfl, h2⟩ := suffix_snoc.mp hs
      exact tailOf_max hu (suffix_snoc.mpr ⟨rfl, tailOf_max (hc _ _ hu) h2⟩)
  · refine tailOf_max (tailOf_mem h0 _) ((tailOf_suf B _).trans ?_)
    exact suffix_snoc.mpr ⟨rfl, tailOf_suf B t⟩
theorem begs_nil (xs : List Pat) : [] ∈ begs xs := mem_begs.mpr (.inl rfl)
theorem mem_begs_pre {xs : List Pat} {y : List Nat} (hy : y ≠ []) : y ∈ begs xs ↔ ∃ x ∈ xs, y <+: x.1 := by
  rw [mem_begs]
  constructor
  · rintro (h | ⟨x, hx, e, h1, h2, h3⟩)
    · exact absurd h hy
    · exact ⟨x, hx, h3 ▸ List.take_prefix _ _⟩
  · rintro ⟨x, hx, h⟩
    have hl := List.length_pos_iff.mpr hy
    refine .inr ⟨x, hx, y.length, hl, h.length_le, ?_⟩
    exact List.prefix_iff_eq_take.mp h
theorem begs_pre (xs : List Pat) (s : List Nat) (d : Nat) (h : s ++ [d] ∈ begs xs) : s ∈ begs xs := by
  obtain ⟨x, hx, hp⟩ := (mem_begs_pre (by simp)).mp h
  by_cases hs : s = []
  · rw [hs]; exact begs_nil xs
  · exact (mem_begs_pre hs).mpr ⟨x, hx, (List.prefix_append s [d]).trans hp⟩
theorem begs_self {xs : List Pat} {x : Pat} (h : x ∈ xs) : x.1 ∈ begs xs := by
  by_cases hs : x.1 = []
  · rw [hs]; exact begs_nil xs
  · exact (mem_begs_pre hs).mpr ⟨x, h, List.prefix_refl _⟩
/-! ### what is told at the end, by patterns -/
theorem tAE_le (gs : List Pat) (x : List Nat) (back : Nat) (c : Int) : ∀ k, tAE gs x back k ≤ c ↔ 0 ≤ c ∧ ∀ j, j < k → ∀ g, lookP gs (x.drop (x.length - (back + j))) = some g → g.2.getD j 0 ≤ c
  | 0 => ⟨fun h => ⟨h, fun j hj => absurd hj (Nat.not_lt_zero j)⟩, fun h => h.1⟩
  | k + 1 => by
    rw [tAE_succ]
    have ih := tAE_le gs x back c k
    cases e : lookP gs (x.drop (x.length - (back + k))) with
    | none =>
      show tAE gs x back k ≤ c ↔ _
      rw [ih]
      refine ⟨fun h => ⟨h.1, fun j hj g hg => ?_⟩, fun h => ⟨h.1, fun j hj => h.2 j (Nat.lt_succ_of_lt hj)⟩⟩
      by_cases hk : j = k
      · subst hk; rw [e] at hg; cases hg
      · exact h.2 j (by omega) g hg
    | some g0 =>
      show mx (tAE gs x back k) (g0.2.getD k 0) ≤ c ↔ _
      rw [mx_le, ih]
      refine ⟨fun h => ⟨h.1.1, fun j hj g hg => ?_⟩, fun h => ⟨⟨h.1, fun j hj => h.2 j (Nat.lt_succ_of_lt hj)⟩, h.2 k (Nat.lt_succ_self k) g0 e⟩⟩
      by_cases hk : j = k
      · subst hk; rw [e] at hg; cases hg; exact h.2
      · exact h.1.2 j (by omega) g hg
theorem lookP_putG {gs : List Pat} {s : List Nat} {ns : List Int} {z : List Nat} : lookP (putG gs s ns) z = if z = s then some (s, ns) else lookP gs z := by
  unfold putG
  by_cases h : (gs.any fun g => decide (g.1 = s)) = true
  · rw [if_pos h]
    induction gs with
    | nil => simp at h
    | cons g gs ih =>
      unfold lookP at ih ⊢
      rw [List.map_cons, List.find?_cons, List.find?_cons]
      by_cases hg : g.1 = s
      · rw [if_pos hg]
        by_cases hz : z = s
        · rw [if_pos hz, decide_eq_true (show (g.1, ns).1 = z from hg.trans hz.symm), hg]
        · rw [if_neg hz, decide_eq_false (show ¬ (g.1, ns).1 = z from fun q => hz (q.symm.trans hg))]
          show List.find? (fun g => decide (g.1 = z)) (gs.map _) = List.find? (fun g => decide (g.1 = z)) gs
          by_cases ha : (gs.any fun g => decide (g.1 = s)) = true
          · have := ih ha
            rw [if_neg hz] at this
            exact this
          · have he : gs.map (fun g => if g.1 = s then (g.1, ns) else g) = gs := by
              conv => rhs; rw [← List.map_id gs]
              apply List.map_congr_left
              intro y hy
              rw [if_neg]
              · rfl
              · intro q
                exact ha (List.any_eq_true.mpr ⟨y, hy, decide_eq_true q⟩)
            rw [he]
      · rw [if_neg hg]
        have ha : (gs.any fun g => decide (g.1 = s)) = true := by
          rw [List.any_cons, decide_eq_false hg, Bool.false_or] at h; exact h
        have := ih ha
        by_cases hz : z = s
        · rw [if_pos hz] at this ⊢
          rw [decide_eq_false (show ¬ g.1 = z from fun q => hg (q.trans hz))]
          exact this
        · rw [if_neg hz] at this ⊢
          rw [this]
  · rw [if_neg h]
    unfold lookP
    rw [List.find?_append]
    by_cases hz : z = s
    · rw [if_pos hz]
      have : List.find? (fun g : Pat => decide (g.1 = z)) gs = none := by
        rw [List.find?_eq_none]
        intro y hy q
        exact h (List.any_eq_true.mpr ⟨y, hy, by rw [hz] at q; exact q⟩)
      rw [this, Option.none_or, List.find?_cons, decide_eq_true (show (s, ns).1 = z from hz.symm)]
    · rw [if_neg hz]
      have : List.find? (fun g : Pat => decide (g.1 = z)) [(s, ns)] = none := by
        rw [List.find?_cons, decide_eq_false (show ¬ (s, ns).1 = z from fun q => hz q.symm)]; rfl
      rw [this, Option.or_none]
/-- the table's numbers are the greatest -/
theorem grt_look {xs : List Pat} (hx : ∀ x ∈ xs, x.2.length = x.1.length + 1) : ∀ n, n ≤ xs.length → ∀ (z : List Nat),
    (lookP (grt (xs.take n)) z = none → ∀ x ∈ xs.take n, x.1 ≠ z) ∧ (∀ g, lookP (grt (xs.take n)) z = some g → g.2.length = z.length + 1 ∧ ∀ (j : Nat) (c : Int), j < z.length + 1 → (g.2.getD j 0 ≤ c ↔ ∀ x ∈ xs.take n, x.1 = z → x.2.getD j 0 ≤ c))
  | 0, _, z => ⟨fun _ x hx => (by simp at hx), fun g h => by
      have : lookP (grt (xs.take 0)) z = none := rfl
      rw [this] at h; cases h⟩
  | n + 1, hn, z => by
    have ih := grt_look hx n (by omega)
    have hn' : n < xs.length := by omega
    have htk : xs.take (n + 1) = xs.take n ++ [xs[n]] := by rw [List.take_succ, List.getElem?_eq_getElem hn']; rfl
    have hxn := hx _ (List.getElem_mem hn')
    rw [htk, grt_snoc]
    generalize xs[n] = x at hxn ⊢
    unfold grtS
    rw [lookP_putG]
    by_cases hz : z = x.1
    · rw [if_pos hz]
      refine ⟨(fun q => by cases q), fun g q => ?_⟩
      cases q
      obtain ⟨ih1, ih2⟩ := ih x.1
      cases e : lookP (grt (xs.take n)) x.1 with
      | none =>
        have hno := ih1 e
        show (zipMx x.2 x.2).length = _ ∧ ∀ (j : Nat) (c : Int), j < _ → ((zipMx x.2 x.2).getD j 0 ≤ c ↔ _)
        refine ⟨by rw [zipMx_len rfl, hxn, hz], fun j c hj => ?_⟩
        have hj' : j < x.2.length := by rw [hxn, ← hz]; exact hj
        have h1 : (zipMx x.2 x.2).getD j 0 = x.2.getD j 0 := by
          rw [List.getD_eq_getElem?_getD, zipMx_get hj' hj', List.getD_eq_getElem?_getD, List.getElem?_eq_getElem hj']
          show mx _ _ = _
          unfold mx; split <;> rfl
        rw [h1]
        refine ⟨fun h y hy hyz => ?_, fun h => h x (List.mem_append.mpr (.inr (by simp))) hz.symm⟩
        rcases List.mem_append.mp hy with q | q
        · exact absurd (hyz.trans hz) (hno y q)
        · have : y = x := by simpa using q
          rw [this]; exact h
      | some g0 =>
        obtain ⟨hl0, hg0⟩ := ih2 g0 e
        have hl : g0.2.length = x.2.length := by rw [hl0, hxn]
        show (zipMx g0.2 x.2).length = _ ∧ ∀ (j : Nat) (c : Int), j < _ → ((zipMx g0.2 x.2).getD j 0 ≤ c ↔ _)
        refine ⟨by rw [zipMx_len hl, hl0, hz], fun j c hj => ?_⟩
        have hj' : j < x.2.length := by rw [hxn, ← hz]; exact hj
        have hj0 : j < g0.2.length := by rw [hl]; exact hj'
        have h1 : (zipMx g0.2 x.2).getD j 0 = mx (g0.2.getD j 0) (x.2.getD j 0) := by
          rw [List.getD_eq_getElem?_getD, zipMx_get hj0 hj', List.getD_eq_getElem?_getD, List.getElem?_eq_getElem hj0, List.getD_eq_getElem?_getD, List.getElem?_eq_getElem hj']; rfl
        rw [h1, mx_le, hg0 j c (by rw [← hz]; exact hj)]
        refine ⟨fun h y hy hyz => ?_, fun h => ⟨fun y hy hyz => h y (List.mem_append.mpr (.inl hy)) (hyz.trans hz.symm), h x (List.mem_append.mpr (.inr (by simp))) hz.symm⟩⟩
        rcases List.mem_append.mp hy with q | q
        · exact h.1 y q (hyz.trans hz)
        · have : y = x := by simpa using q
          rw [this]; exact h.2
    · rw [if_neg hz]
      obtain ⟨ih1, ih2⟩ := ih z
      refine ⟨fun q y hy => ?_, fun g q => ⟨(ih2 g q).1, fun j c hj => ?_⟩⟩
      · rcases List.mem_append.mp hy with h | h
        · exact ih1 q y h
        · have : y = x := by simpa using h
          rw [this]; exact fun w => hz w.symm
      · rw [(ih2 g q).2 j c hj]
        refine ⟨fun h y hy hyz => ?_, fun h y hy => h y (List.mem_append.mpr (.inl hy))⟩
        rcases List.mem_append.mp hy with h' | h'
        · exact h y h' hyz
        · have : y = x := by simpa using h'
          rw [this] at hyz; exact absurd hyz.symm hz
theorem tae_all {xs : List Pat} (hx : ∀ x ∈ xs, x.2.length = x.1.length + 1) (t : List Nat) (back : Nat) (c : Int) :
    tAE (grt xs) t back (t.length + 1 - back) ≤ c ↔ 0 ≤ c ∧ ∀ x ∈ xs, x.1 <:+ t → back ≤ x.1.length → x.2.getD (x.1.length - back) 0 ≤ c := by
  have hg := grt_look hx xs.length (Nat.le_refl _)
  rw [List.take_length] at hg
  rw [tAE_le]
  refine and_congr_right fun h0 => ⟨fun h x hxm hs hb => ?_, fun h j hj g hgj => ?_⟩
  · have hl := hs.length_le
    have he : t.drop (t.length - (back + (x.1.length - back))) = x.1 := by
      rw [show back + (x.1.length - back) = x.1.length by omega]
      exact (List.suffix_iff_eq_drop.mp hs).symm
    have h1 := h (x.1.length - back) (by omega)
    rw [he] at h1
    cases e : lookP (grt xs) x.1 with
    | none => exact absurd rfl ((hg x.1).1 e x hxm)
    | some g => exact (((hg x.1).2 g e).2 (x.1.length - back) c (by omega)).mp (h1 g e) x hxm rfl
  · have hdl : (t.drop (t.length - (back + j))).length = back + j := by rw [List.length_drop]; omega
    refine (((hg _).2 g hgj).2 j c (by rw [hdl]; omega)).mpr fun x hxm hxe => ?_
    have hxl : x.1.length = back + j := by rw [hxe, hdl]
    have := h x hxm (by rw [hxe]; exact List.drop_suffix _ _) (by omega)
    rw [show x.1.length - back = j by omega] at this
    exact this
theorem mem_places {p f : List Nat} {b : Nat} : b ∈ places p f ↔ b < f.length ∧ b + p.length ≤ f.length ∧ (f.drop b).take p.length = p := by
  unfold places fits
  rw [List.mem_filter, List.mem_range]
  simp
/-- a sign more: what was told ahead, and what is told at the end -/
theorem numA_step {xs : List Pat} (hx : ∀ x ∈ xs, x.2.length = x.1.length + 1) (hne : ∀ x ∈ xs, x.1 ≠ []) {rd T : List Nat} {c : Nat} {back p : Nat}
    (hT : ∀ x ∈ xs, x.1 <:+ rd ++ [c] → x.1 <:+ T) (hT2 : T <:+ rd ++ [c]) (hp : p + back = rd.length + 1) :
    numA (rd ++ [c]) p 0 xs = mx (numA rd p 0 xs) (tAE (grt xs) T back (T.length + 1 - back)) := by
  have hfl : (rd ++ [c]).length = rd.length + 1 := by simp
  apply Int.le_antisymm
  · rw [numA_le]
    have ht := (tae_all hx T back _).mp (Int.le_refl _)
    refine ⟨Int.le_trans ht.1 (mx_r _ _), fun v hv => ?_⟩
    obtain ⟨x, hxm, b, hb, hb1, hb2, rfl⟩ := hv
    obtain ⟨h1, h2, h3⟩ := mem_places.mp hb
    have hxl := hx x hxm
    have hx1 := List.length_pos_iff.mpr (hne x hxm)
    by_cases hle : b + x.1.length ≤ rd.length
    · refine Int.le_trans (numA_ge ⟨x, hxm, b, mem_places.mpr ⟨by omega, hle, ?_⟩, hb1, hb2, rfl⟩) (mx_l _ _)
      rw [← h3, List.drop_append_of_le_length (by omega), List.take_append_of_le_length (by rw [List.length_drop]; omega), List.length_take, Nat.min_eq_left (by rw [List.length_drop]; omega)]
    · have hs : x.1 <:+ rd ++ [c] := by
        rw [← h3, List.take_of_length_le (by rw [List.length_drop]; omega)]
        exact List.drop_suffix _ _
      have := ht.2 x hxm (hT x hxm hs) (by omega)
      rw [show x.1.length - back = p - b by omega] at this
      exact Int.le_trans this (mx_r _ _)
  · rw [mx_le]
    constructor
    · rw [numA_le]
      refine ⟨numA_ge0, fun v hv => ?_⟩
      obtain ⟨x, hxm, b, hb, hb1, hb2, rfl⟩ := hv
      obtain ⟨h1, h2, h3⟩ := mem_places.mp hb
      refine numA_ge ⟨x, hxm, b, mem_places.mpr ⟨by omega, by omega, ?_⟩, hb1, hb2, rfl⟩
      rw [List.drop_append_of_le_length (by omega), List.take_append_of_le_length (by rw [List.length_drop]; omega)]
      exact h3
    · rw [tae_all hx]
      refine ⟨numA_ge0, fun x hxm hs hb => ?_⟩
      have hs2 := hs.trans hT2
      have hl := hs2.length_le
      have hxl := hx x hxm
      have hx1 := List.length_pos_iff.mpr (hne x hxm)
      refine numA_ge ⟨x, hxm, rd.length + 1 - x.1.length, mem_places.mpr ⟨by omega, by omega, ?_⟩, by omega, by omega, by congr 1; omega⟩
      have := List.suffix_iff_eq_drop.mp hs2
      rw [hfl] at this
      rw [← this, List.take_length]
theorem numA_out {xs : List Pat} (hx : ∀ x ∈ xs, x.2.length = x.1.length + 1) {rd : List Nat} {p : Nat} (hp : rd.length < p) : numA rd p 0 xs = 0 := by
  apply Int.le_antisymm
  · rw [numA_le]
    refine ⟨Int.le_refl _, fun v hv => ?_⟩
    obtain ⟨x, hxm, b, hb, hb1, hb2, rfl⟩ := hv
    obtain ⟨h1, h2, h3⟩ := mem_places.mp hb
    have := hx x hxm
    omega
  · exact numA_ge0
end L2

set_option Elab.async false
set_option linter.all false
namespace L2
/-- where it is settled, nothing farther on tells a number -/
theorem settled_all {xs ys : List Pat} (hx : ∀ x ∈ xs, x.2.length = x.1.length + 1) (hne : ∀ x ∈ xs, x.1 ≠ []) (hxy : ∀ x ∈ xs, x ∈ ys) {rd rest : List Nat} {p : Nat} (hs : (tailOf (begs ys) rd).length + p < rd.length) :
    numA (rd ++ rest) p 0 xs = numA rd p 0 xs := by
  apply Int.le_antisymm
  · rw [numA_le]
    refine ⟨numA_ge0, fun v hv => ?_⟩
    obtain ⟨x, hxm, b, hb, hb1, hb2, rfl⟩ := hv
    obtain ⟨h1, h2, h3⟩ := mem_places.mp hb
    have hxl := hx x hxm
    have hx1 := List.length_pos_iff.mpr (hne x hxm)
    by_cases hle : b + x.1.length ≤ rd.length
    · refine numA_ge ⟨x, hxm, b, mem_places.mpr ⟨by omega, hle, ?_⟩, hb1, hb2, rfl⟩
      rw [List.drop_append_of_le_length (by omega), List.take_append_of_le_length (by rw [List.length_drop]; omega)] at h3
      exact h3
    · exfalso
      have hpre : rd.drop b <+: x.1 := by
        rw [← h3, List.drop_append_of_le_length (by omega), List.take_append, List.take_of_length_le (by rw [List.length_drop]; omega)]
        exact List.prefix_append _ _
      have hn : rd.drop b ≠ [] := fun z => by
        have := congrArg List.length z
        rw [List.length_drop, List.length_nil] at this
        omega
      have hm : rd.drop b ∈ begs ys := (mem_begs_pre hn).mpr ⟨x, hxy x hxm, hpre⟩
      have := (tailOf_max hm (List.drop_suffix b rd)).length_le
      rw [List.length_drop] at this
      omega
  · rw [numA_le]
    refine ⟨numA_ge0, fun v hv => ?_⟩
    obtain ⟨x, hxm, b, hb, hb1, hb2, rfl⟩ := hv
    obtain ⟨h1, h2, h3⟩ := mem_places.mp hb
    refine numA_ge ⟨x, hxm, b, mem_places.mpr ⟨by rw [List.length_append]; omega, by rw [List.length_append]; omega, ?_⟩, hb1, hb2, rfl⟩
    rw [List.drop_append_of_le_length (by omega), List.take_append_of_le_length (by rw [List.length_drop]; omega)]
    exact h3
end L2

set_option Elab.async false
set_option linter.all false
set_option maxRecDepth 100000
namespace L2
open PySem
open Sem (wp)
/-! zip of two iterators whose items are known -/
structure ZA (z TI TO i1 i2 : Addr) (f1 f2 : List Addr) : Prop where
  TIz : TI ≠ z
  TOz : TO ≠ z
  i1z : i1 ≠ z
  i2z : i2 ≠ z
  TITO : TI ≠ TO
  TIi1 : TI ≠ i1
  TIi2 : TI ≠ i2
  TOi1 : TO ≠ i1
  TOi2 : TO ≠ i2
  i12 : i1 ≠ i2
  zf1 : z ∉ f1
  zf2 : z ∉ f2
  of1 : TO ∉ f1
  of2 : TO ∉ f2
  i1f2 : i1 ∉ f2
  i2f1 : i2 ∉ f1
theorem Draws.still {P : Program} {w : World} {A : Around} {it c : Addr} {fp : List Addr} {n i : Nat} {Pv : Nat → Value → Prop} {St : Nat → Heap → Prop} {h h' : Heap} (D : Draws P w A it fp n Pv St) (st : St i h) (k : Heap.ExtBut c h h') (hc : c ∉ fp) : St i h' :=
  D.frame _ _ _ st fun b hb o e => k b o (fun z => hc (z ▸ hb)) e
section
variable {prog : Program} {w : World} {A : Around} {E : Value → Shared → Prop} {s : Shared}
theorem zip_itemD {z TI TO i1 i2 : Addr} {f1 f2 : List Addr} {n1 n2 k1 k2 : Nat} {P1 P2 : Nat → Value → Prop} {S1 S2 : Nat → Heap → Prop} {a b : Value} {Q : Value → Shared → Prop}
    (D1 : Draws prog w A i1 f1 n1 P1 S1) (D2 : Draws prog w A i2 f2 n2 P2 S2) (Z : ZA z TI TO i1 i2 f1 f2)
    (hz : IsZip s.heap z TI TO .none) (hTI : IsPair s.heap TI (.ref i1) (.ref i2)) (hTO : IsPair s.heap TO a b) (h1 : S1 k1 s.heap) (h2 : S2 k2 s.heap) (l1 : k1 < n1) (l2 : k2 < n2)
    (hQ : ∀ x y h' tk, P1 k1 x → P2 k2 y → IsZip h' z TI TO (rawInt s.heap.objs.size) → IsPair h' TO x y → S1 (k1 + 1) h' → S2 (k2 + 1) h' → IsPair h' s.heap.objs.size x y →
      (∀ c o, c ≠ z → c ≠ TO → c ≠ i1 → c ≠ i2 → s.heap.get? c = some o → h'.get? c = some o) → Q (.ref s.heap.objs.size) { s with heap := h', toks := tk }) :
    wpAny (model prog w) A (Builtin.«zip.__next__» ⟨[.ref z], []⟩) (fun fin s' => ∃ v, fin = .done (.ret v) ∧ Q v s') E s := by
  show wpAny _ _ (field (.ref z) 2 >>= _) _ _ _
  refine wpAny_bind (wpAny_field hz rfl (x := .bool false) rfl ?_)
  show wpAny _ _ (field (.ref z) 3 >>= _) _ _ _
  refine wpAny_bind (wpAny_field hz rfl (x := .ref TI) rfl (wpAny_bind (wpAny_seqItems hTI rfl ?_)))
  show wpAny _ _ (Builtin.SmallTypes.ownedTupleIsFree (.ref z) >>= _) _ _ _
  refine wpAny_bind ?_
  unfold Builtin.SmallTypes.ownedTupleIsFree
  refine wpAny_bind (wpAny_field hz rfl (x := .none) rfl (wpAny_pure ?_))
  simp only [if_true]
  refine wpAny_bind (wpAny_rule (wpAny_bind (wpAny_field hz rfl (x := .ref TO) rfl (wpAny_bind (wpAny_setField_rec hz (by simp) fun g1 zg1 b1 => ?_)))))
  have zg1' : IsZip g1 z TI TO .ellipsis := zg1
  refine wpAny_bind ?_
  simp only [List.zipIdx_cons, List.zipIdx_nil, List.forIn_cons, List.forIn_nil]
  refine wpAny_bind (wpAny_bind (wpAny_onRaise ?_))
  show wpAny _ _ (Builtin.SmallTypes.nextOf (.ref i1) >>= _) _ _ _
  refine wpAny_bind (D1.item k1 _ _ _ l1 (Draws.still D1 h1 b1.extBut Z.zf1) fun x g2 tk1 hx h1' b2 => wpAny_pure ?_)
  have to2 : IsPair g2 TO a b := b2.extBut _ _ Z.TOi1 (b1.extBut _ _ Z.TOz hTO)
  refine wpAny_bind (wpAny_seqItems to2 rfl (wpAny_bind (wpAny_updateSeq_pair to2 fun g3 to3 b3 => ?_)))
  have to3' : IsPair g3 TO x b := to3
  refine wpAny_bind (wpAny_letGo (wpAny_pure ?_))
  refine wpAny_bind (wpAny_bind (wpAny_onRaise ?_))
  show wpAny _ _ (Builtin.SmallTypes.nextOf (.ref i2) >>= _) _ _ _
  refine wpAny_bind (D2.item k2 _ _ _ l2 (Draws.still D2 (Draws.still D2 (Draws.still D2 h2 b1.extBut Z.zf2) b2.extBut Z.i1f2) b3.extBut Z.of2) fun y g4 tk2 hy h2' b4 => wpAny_pure ?_)
  have to4 : IsPair g4 TO x b := b4.extBut _ _ Z.TOi2 to3'
  refine wpAny_bind (wpAny_seqItems to4 rfl (wpAny_bind (wpAny_updateSeq_pair to4 fun g5 to5 b5 => ?_)))
  have to5' : IsPair g5 TO x y := to5
  refine wpAny_bind (wpAny_letGo (wpAny_pure (wpAny_pure ?_)))
  refine wpAny_bind (wpAny_seqItems to5' rfl (wpAny_bind (wpAny_newTuple ?_)))
  have sz : g5.objs.size = s.heap.objs.size := by rw [b5.1, b4.1, b3.1, b2.1, b1.1]
  have zg5 : IsZip g5 z TI TO .ellipsis := b5.extBut _ _ Z.TOz.symm (b4.extBut _ _ Z.i2z.symm (b3.extBut _ _ Z.TOz.symm (b2.extBut _ _ Z.i1z.symm zg1')))
  have kp : ∀ c o, c ≠ z → c ≠ TO → c ≠ i1 → c ≠ i2 → s.heap.get? c = some o → g5.get? c = some o := fun c o c1 c2 c3 c4 e =>
    b5.extBut _ _ c2 (b4.extBut _ _ c4 (b3.extBut _ _ c2 (b2.extBut _ _ c3 (b1.extBut _ _ c1 e))))
  have s1 : S1 (k1 + 1) g5 := Draws.still D1 (Draws.still D1 (Draws.still D1 h1' b3.extBut Z.of1) b4.extBut Z.i2f1) b5.extBut Z.of1
  have s2 : S2 (k2 + 1) g5 := Draws.still D2 h2' b5.extBut Z.of2
  have zlt : z < g5.objs.size := Heap.lt_size zg5
  show wpAny _ _ (Builtin.SmallTypes.ownedTupleHandOut (.ref z) (.ref g5.objs.size) >>= _) _ _ _
  refine wpAny_bind ?_
  unfold Builtin.SmallTypes.ownedTupleHandOut
  have zg6 : IsZip (g5.push { cls := .type "tuple", data := .seq #[x, y] }) z TI TO .ellipsis := Heap.get?_push_of_some _ zg5
  refine wpAny_bind (wpAny_setField_rec zg6 (by simp) fun g7 zg7 b7 => ?_)
  have zg7' : IsZip g7 z TI TO (rawInt g5.objs.size) := zg7
  refine wpAny_setField_rec zg7' (by simp) fun g8 zg8 b8 => ?_
  have zg8' : IsZip g8 z TI TO (rawInt g5.objs.size) := zg8
  have up : ∀ c o, c ≠ z → g5.get? c = some o → g8.get? c = some o := fun c o c1 e => b8.extBut _ _ c1 (b7.extBut _ _ c1 (Heap.get?_push_of_some _ e))
  have tp : IsPair g8 g5.objs.size x y := b8.extBut _ _ (Nat.ne_of_gt zlt) (b7.extBut _ _ (Nat.ne_of_gt zlt) (Heap.get?_push_size _ rfl))
  rw [sz] at zg8' tp
  refine wpAny_pure ⟨_, rfl, ?_⟩
  show Q (.ref g5.objs.size) _
  rw [sz]
  exact hQ x y g8 _ hx hy zg8' (up _ _ Z.TOz to5') (D1.frame _ _ _ s1 fun c hc o e => up c o (fun q => Z.zf1 (q ▸ hc)) e) (D2.frame _ _ _ s2 fun c hc o e => up c o (fun q => Z.zf2 (q ▸ hc)) e) tp fun c o c1 c2 c3 c4 e => up c o c1 (kp c o c1 c2 c3 c4 e)
theorem zip_endD {z TI TO i1 i2 : Addr} {f1 f2 : List Addr} {n1 n2 k : Nat} {P1 P2 : Nat → Value → Prop} {S1 S2 : Nat → Heap → Prop} {a b : Value} {Q : Fin → Shared → Prop}
    (D1 : Draws prog w A i1 f1 n1 P1 S1) (D2 : Draws prog w A i2 f2 n2 P2 S2) (Z : ZA z TI TO i1 i2 f1 f2)
    (hz : IsZip s.heap z TI TO .none) (hTI : IsPair s.heap TI (.ref i1) (.ref i2)) (hTO : IsPair s.heap TO a b) (h1 : S1 k s.heap) (h2 : S2 k s.heap) (hk : k = min n1 n2)
    (hE : ∀ h' e tk, (∀ c o, c ≠ z → c ≠ TO → c ≠ i1 → c ≠ i2 → s.heap.get? c = some o → h'.get? c = some o) → (∃ o, h'.get? e = some o ∧ o.cls = .type "StopIteration") → E (.ref e) { s with heap := h', toks := tk }) :
    wpAny (model prog w) A (Builtin.«zip.__next__» ⟨[.ref z], []⟩) Q E s := by
  show wpAny _ _ (field (.ref z) 2 >>= _) _ _ _
  refine wpAny_bind (wpAny_field hz rfl (x := .bool false) rfl ?_)
  show wpAny _ _ (field (.ref z) 3 >>= _) _ _ _
  refine wpAny_bind (wpAny_field hz rfl (x := .ref TI) rfl (wpAny_bind (wpAny_seqItems hTI rfl ?_)))
  show wpAny _ _ (Builtin.SmallTypes.ownedTupleIsFree (.ref z) >>= _) _ _ _
  refine wpAny_bind ?_
  unfold Builtin.SmallTypes.ownedTupleIsFree
  refine wpAny_bind (wpAny_field hz rfl (x := .none) rfl (wpAny_pure ?_))
  simp only [if_true]
  refine wpAny_bind (wpAny_rule (wpAny_bind (wpAny_field hz rfl (x := .ref TO) rfl (wpAny_bind (wpAny_setField_rec hz (by simp) fun g1 zg1 b1 => ?_)))))
  have zg1' : IsZip g1 z TI TO .ellipsis := zg1
  refine wpAny_bind ?_
  simp only [List.zipIdx_cons, List.zipIdx_nil, List.forIn_cons, List.forIn_nil]
  refine wpAny_bind (wpAny_bind (wpAny_onRaise ?_))
  show wpAny _ _ (Builtin.SmallTypes.nextOf (.ref i1) >>= _) _ _ _
  have h1g := Draws.still D1 h1 b1.extBut Z.zf1
  by_cases c : n1 ≤ n2
  · have e : k = n1 := by omega
    subst e
    refine wpAny_bind (D1.done _ _ _ h1g fun g2 e b2 he => ?_)
    obtain ⟨oe, hoe, hce⟩ := he
    have zg2 : IsZip g2 z TI TO .ellipsis := b2 _ _ Z.i1z.symm zg1'
    have hez : e ≠ z := fun x => by subst x; rw [zg2] at hoe; cases hoe; simp at hce
    exact wpAny_setField_rec zg2 (by simp) fun g3 _ b3 => hE g3 e _ (fun c o c1 _ c3 _ x => b3.extBut _ _ c1 (b2 _ _ c3 (b1.extBut _ _ c1 x))) ⟨oe, b3.extBut _ _ hez hoe, hce⟩
  · have e : k = n2 := by omega
    subst e
    refine wpAny_bind (D1.item k _ _ _ (by omega) h1g fun x g2 tk1 hx h1' b2 => wpAny_pure ?_)
    have to2 : IsPair g2 TO a b := b2.extBut _ _ Z.TOi1 (b1.extBut _ _ Z.TOz hTO)
    refine wpAny_bind (wpAny_seqItems to2 rfl (wpAny_bind (wpAny_updateSeq_pair to2 fun g3 to3 b3 => ?_)))
    refine wpAny_bind (wpAny_letGo (wpAny_pure ?_))
    refine wpAny_bind (wpAny_bind (wpAny_onRaise ?_))
    show wpAny _ _ (Builtin.SmallTypes.nextOf (.ref i2) >>= _) _ _ _
    refine wpAny_bind (D2.done _ _ _ (Draws.still D2 (Draws.still D2 (Draws.still D2 h2 b1.extBut Z.zf2) b2.extBut Z.i1f2) b3.extBut Z.of2) fun g4 e b4 he => ?_)
    obtain ⟨oe, hoe, hce⟩ := he
    have zg4 : IsZip g4 z TI TO .ellipsis := b4 _ _ Z.i2z.symm (b3.extBut _ _ Z.TOz.symm (b2.extBut _ _ Z.i1z.symm zg1'))
    have hez : e ≠ z := fun x => by subst x; rw [zg4] at hoe; cases hoe; simp at hce
    exact wpAny_setField_rec zg4 (by simp) fun g5 _ b5 => hE g5 e _ (fun c o c1 c2 c3 c4 x => b5.extBut _ _ c1 (b4 _ _ c4 (b3.extBut _ _ c2 (b2.extBut _ _ c3 (b1.extBut _ _ c1 x))))) ⟨oe, b5.extBut _ _ hez hoe, hce⟩
end
/-! zip(text, tuple) -/
theorem IsTuple_push {h : Heap} {l : Addr} {ys : Array Value} (hl : h.IsTuple l ys) (o : Obj) : (h.push o).IsTuple l ys := by
  obtain ⟨u, e, r⟩ := hl
  exact ⟨u, Heap.get?_push_of_some _ e, r⟩
set_option maxHeartbeats 4000000 in
section
variable {prog : Program} {w : World} {A : Around} {E : Value → Shared → Prop} {s : Shared}
end
end L2

set_option Elab.async false
set_option linter.all false
set_option maxRecDepth 100000
namespace L2
open PySem PySem.Spec PyProof.Rows
/-- two rows side by side -/
def Izp (xs ys : List V) (ok : Hp → Prop) : It :=
  ⟨fun i H => ok H ∧ i < xs.length ∧ i < ys.length, fun i H x H' => ∃ T u v, H T = none ∧ xs[i]? = some u ∧ ys[i]? = some v ∧ x = .ref T ∧ H' = upd H T (.tup [u, v]), fun i H => ok H ∧ i = min xs.length ys.length⟩
theorem zn1 {n i j : Nat} (h : i ≠ j) : n + i ≠ n + j := by omega
theorem zn2 {n j : Nat} (h : 0 ≠ j) : n ≠ n + j := by omega
theorem zn3 {n j : Nat} (h : 0 ≠ j) : n + j ≠ n := by omega
section
variable {X : Cx}
end
theorem comp_zip {xs ys : List V} {ok : Hp → Prop} {p : Addr} {g : TG} {tc : TT} {te : TE} {Q : VK} {σ0 : St} {H0 : Hp} (n : Nat) (hn : n = min xs.length ys.length) (Pv : Nat → List V → St → Hp → Prop)
    (hok : ∀ i acc σ H, i ≤ n → Pv i acc σ H → ok H) (h0 : Pv 0 [] σ0 H0) (hp : ∀ i acc σ H, Pv i acc σ H → H p = some (.lst acc) ∧ acc.length ≤ i) (hz : n ≤ sizeLine)
    (hs : ∀ i u v acc σ H T, xs[i]? = some u → ys[i]? = some v → Pv i acc σ H → H T = none → g (.ref T) σ (upd H T (.tup [u, v])) fun σ3 H3 => tc σ3 H3 fun bb H4 =>
      if bb = true then te σ3 H4 fun v H5 => H5 p = some (.lst acc) ∧ Pv (i + 1) (acc ++ [v]) σ3 (upd H5 p (.lst (acc ++ [v]))) else Pv (i + 1) acc σ3 H4)
    (hd : ∀ acc σ H, Pv n acc σ H → Q (.ref p) H) : CompRuns (Izp xs ys ok) p g tc te Q σ0 H0 := by
  refine ⟨fun i m acc σ H => m = n - i ∧ i ≤ n ∧ Pv i acc σ H, ⟨n, by simp, Nat.zero_le _, h0⟩, fun i m acc σ' H' w => ?_⟩
  obtain ⟨rfl, hi, q⟩ := w
  obtain ⟨q1, q2⟩ := hp i acc σ' H' q
  have ho := hok i acc σ' H' hi q
  refine ⟨q1, ?_⟩
  by_cases hlt : i < n
  · refine .inr ⟨⟨ho, by omega, by omega⟩, by omega, Pv (i + 1), fun a' σ3 H3 k => ⟨n - (i + 1), by omega, rfl, hlt, k⟩, fun x H2 y => ?_⟩
    obtain ⟨T, u, v, hT, hu, hv, rfl, rfl⟩ := y
    exact hs i u v acc σ' H' T hu hv q hT
  · have e : i = n := by omega
    subst e
    exact .inl ⟨⟨ho, hn⟩, hd acc σ' H' q⟩
end L2

set_option Elab.async false
set_option linter.all false
set_option maxRecDepth 100000
namespace L2
open PySem PySem.Spec PyProof.Rows
section
variable {X : Cx}
/-! ### list.clear -/
end
end L2

set_option Elab.async false
set_option linter.all false
set_option maxRecDepth 100000
namespace L2
open PySem
section
variable {prog : Program} {w : World} {A : Around} {E : Value → Shared → Prop} {s : Shared}
/-- zip's object while a tuple that it handed out is held -/
def heldZ (T : Addr) (f : Bool) (TI TO : Addr) : Obj := { cls := .type "zip", dict := none, data := .fields #[rawInt T, .bool f, .bool false, .ref TI, .ref TO], slots := #[] }
theorem load_alive {M : Model} {a : Addr} {o : Obj} {Q : Option Obj → Shared → Prop} (h : s.heap.get? a = some o) (q : Q (some o) s) : wpAny M A (loadIfAlive a) Q E s := fun Γ p hΓ => by
  show PySem.Sem.wp M Γ (.loadIfAlive a .pure) _ _ p s
  rw [PySem.Sem.wp_loadIfAlive, h]
  exact q
theorem free_held {z T TI TO : Addr} {f : Bool} {oT : Obj} {Q : Bool → Shared → Prop} (hz : s.heap.get? z = some (heldZ T f TI TO)) (hoT : s.heap.get? T = some oT)
    (h : ∀ g, g.get? z = some (heldZ T true TI TO) → Heap.SameBut z s.heap g → Q false { s with heap := g }) : wpAny (model prog w) A (Builtin.SmallTypes.ownedTupleIsFree (.ref z)) Q E s := by
  unfold Builtin.SmallTypes.ownedTupleIsFree
  refine wpAny_bind (wpAny_field hz rfl (x := rawInt T) rfl ?_)
  show wpAny _ _ (loadIfAlive (((T : Nat) : Int)).toNat >>= _) _ _ _
  rw [Int.toNat_natCast]
  refine wpAny_bind (load_alive hoT ?_)
  rw [if_neg (by simp)]
  refine wpAny_bind (wpAny_field hz rfl (x := .bool f) rfl ?_)
  cases f with
  | false =>
    rw [if_pos (by decide)]
    exact wpAny_bind (wpAny_setField_rec hz (by simp) fun g zg b => wpAny_pure (h g zg b))
  | true =>
    rw [if_neg (by decide)]
    have e : s = { s with heap := s.heap } := by cases s; rfl
    rw [e]
    exact wpAny_pure (h s.heap hz (Heap.SameBut.refl _ _))
theorem zip_itemH {z TI TO i1 i2 T : Addr} {f : Bool} {f1 f2 : List Addr} {n1 n2 k1 k2 : Nat} {P1 P2 : Nat → Value → Prop} {S1 S2 : Nat → Heap → Prop} {Q : Value → Shared → Prop}
    (D1 : Draws prog w A i1 f1 n1 P1 S1) (D2 : Draws prog w A i2 f2 n2 P2 S2) (Z : ZA z TI TO i1 i2 f1 f2)
    (hz : s.heap.get? z = some (heldZ T f TI TO)) (hT : ∃ o, s.heap.get? T = some o) (hTI : IsPair s.heap TI (.ref i1) (.ref i2)) (h1 : S1 k1 s.heap) (h2 : S2 k2 s.heap) (l1 : k1 < n1) (l2 : k2 < n2)
    (hQ : ∀ x y h' tk, P1 k1 x → P2 k2 y → h'.get? z = some (heldZ T true TI TO) → S1 (k1 + 1) h' → S2 (k2 + 1) h' → IsPair h' s.heap.objs.size x y →
      (∀ c o, c ≠ z → c ≠ i1 → c ≠ i2 → s.heap.get? c = some o → h'.get? c = some o) → Q (.ref s.heap.objs.size) { s with heap := h', toks := tk }) :
    wpAny (model prog w) A (Builtin.«zip.__next__» ⟨[.ref z], []⟩) (fun fin s' => ∃ v, fin = .done (.ret v) ∧ Q v s') E s := by
  obtain ⟨oT, hoT⟩ := hT
  show wpAny _ _ (field (.ref z) 2 >>= _) _ _ _
  refine wpAny_bind (wpAny_field hz rfl (x := .bool false) rfl ?_)
  show wpAny _ _ (field (.ref z) 3 >>= _) _ _ _
  refine wpAny_bind (wpAny_field hz rfl (x := .ref TI) rfl (wpAny_bind (wpAny_seqItems hTI rfl ?_)))
  show wpAny _ _ (Builtin.SmallTypes.ownedTupleIsFree (.ref z) >>= _) _ _ _
  refine wpAny_bind (free_held hz hoT fun g zg b1 => ?_)
  rw [if_neg Bool.false_ne_true]
  dsimp only
  rw [← Array.forIn_toList]
  simp only [List.forIn_cons, List.forIn_nil]
  refine wpAny_bind (wpAny_bind (wpAny_bind (wpAny_holding ?_)))
  show wpAny _ _ (Builtin.SmallTypes.nextOf (.ref i1) >>= _) _ _ _
  refine wpAny_bind (D1.item k1 _ _ _ l1 (Draws.still D1 h1 b1.extBut Z.zf1) fun x g2 tk1 hx h1' b2 => wpAny_pure (wpAny_pure ?_))
  dsimp only
  refine wpAny_bind (wpAny_bind (wpAny_holding ?_))
  show wpAny _ _ (Builtin.SmallTypes.nextOf (.ref i2) >>= _) _ _ _
  refine wpAny_bind (D2.item k2 _ _ _ l2 (Draws.still D2 (Draws.still D2 h2 b1.extBut Z.zf2) b2.extBut Z.i1f2) fun y g3 tk2 hy h2' b3 => wpAny_pure (wpAny_pure (wpAny_pure ?_)))
  dsimp only
  have sz : g3.objs.size = s.heap.objs.size := by rw [b3.1, b2.1, b1.1]
  refine wpAny_bind (wpAny_newTuple ?_ (by show 2 ≤ sizeLine; decide))
  refine wpAny_pure ⟨_, rfl, ?_⟩
  have zg3 : g3.get? z = some (heldZ T true TI TO) := b3.extBut _ _ Z.i2z.symm (b2.extBut _ _ Z.i1z.symm zg)
  have s1 : S1 (k1 + 1) g3 := Draws.still D1 h1' b3.extBut Z.i2f1
  show Q (.ref g3.objs.size) _
  have tp : IsPair (g3.push { cls := .type "tuple", data := .seq #[x, y] }) g3.objs.size x y := Heap.get?_push_size _ rfl
  rw [sz] at tp ⊢
  exact hQ x y _ _ hx hy (Heap.get?_push_of_some _ zg3) (D1.frame _ _ _ s1 fun c hc o e => Heap.get?_push_of_some _ e) (D2.frame _ _ _ h2' fun c hc o e => Heap.get?_push_of_some _ e) tp fun c o c1 c3 c4 e => Heap.get?_push_of_some _ (b3.extBut _ _ c4 (b2.extBut _ _ c3 (b1.extBut _ _ c1 e)))
/-- zip's object -/
def zO (f0 : Value) (f : Bool) (TI TO : Addr) : Obj := { cls := .type "zip", dict := none, data := .fields #[f0, .bool f, .bool false, .ref TI, .ref TO], slots := #[] }
theorem load_dead {M : Model} {a : Addr} {Q : Option Obj → Shared → Prop} (h : s.heap.get? a = none) (q : Q none s) : wpAny M A (loadIfAlive a) Q E s := fun Γ p hΓ => by
  show PySem.Sem.wp M Γ (.loadIfAlive a .pure) _ _ p s
  rw [PySem.Sem.wp_loadIfAlive, h]
  exact q
theorem free_dead {z T TI TO : Addr} {f : Bool} {Q : Bool → Shared → Prop} (hz : s.heap.get? z = some (heldZ T f TI TO)) (hT : s.heap.get? T = none) (h : Q true s) : wpAny (model prog w) A (Builtin.SmallTypes.ownedTupleIsFree (.ref z)) Q E s := by
  unfold Builtin.SmallTypes.ownedTupleIsFree
  refine wpAny_bind (wpAny_field hz rfl (x := rawInt T) rfl ?_)
  show wpAny _ _ (loadIfAlive (((T : Nat) : Int)).toNat >>= _) _ _ _
  rw [Int.toNat_natCast]
  refine wpAny_bind (load_dead hT ?_)
  rw [if_pos (by simp)]
  exact wpAny_pure h
theorem zip_itemF {z TI TO i1 i2 T : Addr} {f : Bool} {f1 f2 : List Addr} {n1 n2 k1 k2 : Nat} {P1 P2 : Nat → Value → Prop} {S1 S2 : Nat → Heap → Prop} {a b : Value} {Q : Value → Shared → Prop}
    (D1 : Draws prog w A i1 f1 n1 P1 S1) (D2 : Draws prog w A i2 f2 n2 P2 S2) (Z : ZA z TI TO i1 i2 f1 f2)
    (hz : s.heap.get? z = some (heldZ T f TI TO)) (hT : s.heap.get? T = none) (hTI : IsPair s.heap TI (.ref i1) (.ref i2)) (hTO : IsPair s.heap TO a b) (h1 : S1 k1 s.heap) (h2 : S2 k2 s.heap) (l1 : k1 < n1) (l2 : k2 < n2)
    (hQ : ∀ x y h' tk, P1 k1 x → P2 k2 y → h'.get? z = some (heldZ s.heap.objs.size false TI TO) → IsPair h' TO x y → S1 (k1 + 1) h' → S2 (k2 + 1) h' → IsPair h' s.heap.objs.size x y →
      (∀ c o, c ≠ z → c ≠ TO → c ≠ i1 → c ≠ i2 → s.heap.get? c = some o → h'.get? c = some o) → Q (.ref s.heap.objs.size) { s with heap := h', toks := tk }) :
    wpAny (model prog w) A (Builtin.«zip.__next__» ⟨[.ref z], []⟩) (fun fin s' => ∃ v, fin = .done (.ret v) ∧ Q v s') E s := by
  show wpAny _ _ (field (.ref z) 2 >>= _) _ _ _
  refine wpAny_bind (wpAny_field hz rfl (x := .bool false) rfl ?_)
  show wpAny _ _ (field (.ref z) 3 >>= _) _ _ _
  refine wpAny_bind (wpAny_field hz rfl (x := .ref TI) rfl (wpAny_bind (wpAny_seqItems hTI rfl ?_)))
  show wpAny _ _ (Builtin.SmallTypes.ownedTupleIsFree (.ref z) >>= _) _ _ _
  refine wpAny_bind (free_dead hz hT ?_)
  simp only [if_true]
  refine wpAny_bind (wpAny_rule (wpAny_bind (wpAny_field hz rfl (x := .ref TO) rfl (wpAny_bind (wpAny_setField_rec hz (by simp) fun g1 zg1 b1 => ?_)))))
  have zg1' : g1.get? z = some (zO .ellipsis f TI TO) := zg1
  refine wpAny_bind ?_
  simp only [List.zipIdx_cons, List.zipIdx_nil, List.forIn_cons, List.forIn_nil]
  refine wpAny_bind (wpAny_bind (wpAny_onRaise ?_))
  show wpAny _ _ (Builtin.SmallTypes.nextOf (.ref i1) >>= _) _ _ _
  refine wpAny_bind (D1.item k1 _ _ _ l1 (Draws.still D1 h1 b1.extBut Z.zf1) fun x g2 tk1 hx h1' b2 => wpAny_pure ?_)
  have to2 : IsPair g2 TO a b := b2.extBut _ _ Z.TOi1 (b1.extBut _ _ Z.TOz hTO)
  refine wpAny_bind (wpAny_seqItems to2 rfl (wpAny_bind (wpAny_updateSeq_pair to2 fun g3 to3 b3 => ?_)))
  have to3' : IsPair g3 TO x b := to3
  refine wpAny_bind (wpAny_letGo (wpAny_pure ?_))
  refine wpAny_bind (wpAny_bind (wpAny_onRaise ?_))
  show wpAny _ _ (Builtin.SmallTypes.nextOf (.ref i2) >>= _) _ _ _
  refine wpAny_bind (D2.item k2 _ _ _ l2 (Draws.still D2 (Draws.still D2 (Draws.still D2 h2 b1.extBut Z.zf2) b2.extBut Z.i1f2) b3.extBut Z.of2) fun y g4 tk2 hy h2' b4 => wpAny_pure ?_)
  have to4 : IsPair g4 TO x b := b4.extBut _ _ Z.TOi2 to3'
  refine wpAny_bind (wpAny_seqItems to4 rfl (wpAny_bind (wpAny_updateSeq_pair to4 fun g5 to5 b5 => ?_)))
  have to5' : IsPair g5 TO x y := to5
  refine wpAny_bind (wpAny_letGo (wpAny_pure (wpAny_pure ?_)))
  refine wpAny_bind (wpAny_seqItems to5' rfl (wpAny_bind (wpAny_newTuple ?_)))
  have sz : g5.objs.size = s.heap.objs.size := by rw [b5.1, b4.1, b3.1, b2.1, b1.1]
  have zg5 : g5.get? z = some (zO .ellipsis f TI TO) := b5.extBut _ _ Z.TOz.symm (b4.extBut _ _ Z.i2z.symm (b3.extBut _ _ Z.TOz.symm (b2.extBut _ _ Z.i1z.symm zg1')))
  have kp : ∀ c o, c ≠ z → c ≠ TO → c ≠ i1 → c ≠ i2 → s.heap.get? c = some o → g5.get? c = some o := fun c o c1 c2 c3 c4 e =>
    b5.extBut _ _ c2 (b4.extBut _ _ c4 (b3.extBut _ _ c2 (b2.extBut _ _ c3 (b1.extBut _ _ c1 e))))
  have s1 : S1 (k1 + 1) g5 := Draws.still D1 (Draws.still D1 (Draws.still D1 h1' b3.extBut Z.of1) b4.extBut Z.i2f1) b5.extBut Z.of1
  have s2 : S2 (k2 + 1) g5 := Draws.still D2 h2' b5.extBut Z.of2
  have zlt : z < g5.objs.size := Heap.lt_size zg5
  show wpAny _ _ (Builtin.SmallTypes.ownedTupleHandOut (.ref z) (.ref g5.objs.size) >>= _) _ _ _
  refine wpAny_bind ?_
  unfold Builtin.SmallTypes.ownedTupleHandOut
  have zg6 : (g5.push { cls := .type "tuple", data := .seq #[x, y] }).get? z = some (zO .ellipsis f TI TO) := Heap.get?_push_of_some _ zg5
  refine wpAny_bind (wpAny_setField_rec zg6 (by simp) fun g7 zg7 b7 => ?_)
  have zg7' : g7.get? z = some (zO (rawInt g5.objs.size) f TI TO) := zg7
  refine wpAny_setField_rec zg7' (by simp) fun g8 zg8 b8 => ?_
  have zg8' : g8.get? z = some (heldZ g5.objs.size false TI TO) := zg8
  have up : ∀ c o, c ≠ z → g5.get? c = some o → g8.get? c = some o := fun c o c1 e => b8.extBut _ _ c1 (b7.extBut _ _ c1 (Heap.get?_push_of_some _ e))
  have tp : IsPair g8 g5.objs.size x y := b8.extBut _ _ (Nat.ne_of_gt zlt) (b7.extBut _ _ (Nat.ne_of_gt zlt) (Heap.get?_push_size _ rfl))
  rw [sz] at zg8' tp
  refine wpAny_pure ⟨_, rfl, ?_⟩
  show Q (.ref g5.objs.size) _
  rw [sz]
  exact hQ x y g8 _ hx hy zg8' (up _ _ Z.TOz to5') (D1.frame _ _ _ s1 fun c hc o e => up c o (fun q => Z.zf1 (q ▸ hc)) e) (D2.frame _ _ _ s2 fun c hc o e => up c o (fun q => Z.zf2 (q ▸ hc)) e) tp fun c o c1 c2 c3 c4 e => up c o c1 (kp c o c1 c2 c3 c4 e)
theorem zip_endF {z TI TO i1 i2 T : Addr} {f : Bool} {f1 f2 : List Addr} {n1 n2 k : Nat} {P1 P2 : Nat → Value → Prop} {S1 S2 : Nat → Heap → Prop} {a b : Value} {Q : Fin → Shared → Prop}
    (D1 : Draws prog w A i1 f1 n1 P1 S1) (D2 : Draws prog w A i2 f2 n2 P2 S2) (Z : ZA z TI TO i1 i2 f1 f2)
    (hz : s.heap.get? z = some (heldZ T f TI TO)) (hT : s.heap.get? T = none) (hTI : IsPair s.heap TI (.ref i1) (.ref i2)) (hTO : IsPair s.heap TO a b) (h1 : S1 k s.heap) (h2 : S2 k s.heap) (hk : k = min n1 n2)
    (hE : ∀ h' e tk, (∀ c o, c ≠ z → c ≠ TO → c ≠ i1 → c ≠ i2 → s.heap.get? c = some o → h'.get? c = some o) → (∃ o, h'.get? e = some o ∧ o.cls = .type "StopIteration") → E (.ref e) { s with heap := h', toks := tk }) :
    wpAny (model prog w) A (Builtin.«zip.__next__» ⟨[.ref z], []⟩) Q E s := by
  show wpAny _ _ (field (.ref z) 2 >>= _) _ _ _
  refine wpAny_bind (wpAny_field hz rfl (x := .bool false) rfl ?_)
  show wpAny _ _ (field (.ref z) 3 >>= _) _ _ _
  refine wpAny_bind (wpAny_field hz rfl (x := .ref TI) rfl (wpAny_bind (wpAny_seqItems hTI rfl ?_)))
  show wpAny _ _ (Builtin.SmallTypes.ownedTupleIsFree (.ref z) >>= _) _ _ _
  refine wpAny_bind (free_dead hz hT ?_)
  simp only [if_true]
  refine wpAny_bind (wpAny_rule (wpAny_bind (wpAny_field hz rfl (x := .ref TO) rfl (wpAny_bind (wpAny_setField_rec hz (by simp) fun g1 zg1 b1 => ?_)))))
  have zg1' : g1.get? z = some (zO .ellipsis f TI TO) := zg1
  refine wpAny_bind ?_
  simp only [List.zipIdx_cons, List.zipIdx_nil, List.forIn_cons, List.forIn_nil]
  refine wpAny_bind (wpAny_bind (wpAny_onRaise ?_))
  show wpAny _ _ (Builtin.SmallTypes.nextOf (.ref i1) >>= _) _ _ _
  have h1g := Draws.still D1 h1 b1.extBut Z.zf1
  by_cases c : n1 ≤ n2
  · have e : k = n1 := by omega
    subst e
    refine wpAny_bind (D1.done _ _ _ h1g fun g2 e b2 he => ?_)
    obtain ⟨oe, hoe, hce⟩ := he
    have zg2 : g2.get? z = some (zO .ellipsis f TI TO) := b2 _ _ Z.i1z.symm zg1'
    have hez : e ≠ z := fun x => by subst x; rw [zg2] at hoe; cases hoe; simp [zO] at hce
    exact wpAny_setField_rec zg2 (by simp) fun g3 _ b3 => hE g3 e _ (fun c o c1 _ c3 _ x => b3.extBut _ _ c1 (b2 _ _ c3 (b1.extBut _ _ c1 x))) ⟨oe, b3.extBut _ _ hez hoe, hce⟩
  · have e : k = n2 := by omega
    subst e
    refine wpAny_bind (D1.item k _ _ _ (by omega) h1g fun x g2 tk1 hx h1' b2 => wpAny_pure ?_)
    have to2 : IsPair g2 TO a b := b2.extBut _ _ Z.TOi1 (b1.extBut _ _ Z.TOz hTO)
    refine wpAny_bind (wpAny_seqItems to2 rfl (wpAny_bind (wpAny_updateSeq_pair to2 fun g3 to3 b3 => ?_)))
    refine wpAny_bind (wpAny_letGo (wpAny_pure ?_))
    refine wpAny_bind (wpAny_bind (wpAny_onRaise ?_))
    show wpAny _ _ (Builtin.SmallTypes.nextOf (.ref i2) >>= _) _ _ _
    refine wpAny_bind (D2.done _ _ _ (Draws.still D2 (Draws.still D2 (Draws.still D2 h2 b1.extBut Z.zf2) b2.extBut Z.i1f2) b3.extBut Z.of2) fun g4 e b4 he => ?_)
    obtain ⟨oe, hoe, hce⟩ := he
    have zg4 : g4.get? z = some (zO .ellipsis f TI TO) := b4 _ _ Z.i2z.symm (b3.extBut _ _ Z.TOz.symm (b2.extBut _ _ Z.i1z.symm zg1'))
    have hez : e ≠ z := fun x => by subst x; rw [zg4] at hoe; cases hoe; simp [zO] at hce
    exact wpAny_setField_rec zg4 (by simp) fun g5 _ b5 => hE g5 e _ (fun c o c1 c2 c3 c4 x => b5.extBut _ _ c1 (b4 _ _ c4 (b3.extBut _ _ c2 (b2.extBut _ _ c3 (b1.extBut _ _ c1 x))))) ⟨oe, b5.extBut _ _ hez hoe, hce⟩
theorem zip_endH {z TI TO i1 i2 T : Addr} {f : Bool} {f1 f2 : List Addr} {n1 n2 k : Nat} {P1 P2 : Nat → Value → Prop} {S1 S2 : Nat → Heap → Prop} {Q : Fin → Shared → Prop}
    (D1 : Draws prog w A i1 f1 n1 P1 S1) (D2 : Draws prog w A i2 f2 n2 P2 S2) (Z : ZA z TI TO i1 i2 f1 f2)
    (hz : s.heap.get? z = some (heldZ T f TI TO)) (hT : ∃ o, s.heap.get? T = some o) (hTI : IsPair s.heap TI (.ref i1) (.ref i2)) (h1 : S1 k s.heap) (h2 : S2 k s.heap) (hk : k = min n1 n2)
    (hE : ∀ h' e tk, (∀ c o, c ≠ z → c ≠ TO → c ≠ i1 → c ≠ i2 → s.heap.get? c = some o → h'.get? c = some o) → (∃ o, h'.get? e = some o ∧ o.cls = .type "StopIteration") → E (.ref e) { s with heap := h', toks := tk }) :
    wpAny (model prog w) A (Builtin.«zip.__next__» ⟨[.ref z], []⟩) Q E s := by
  obtain ⟨oT, hoT⟩ := hT
  show wpAny _ _ (field (.ref z) 2 >>= _) _ _ _
  refine wpAny_bind (wpAny_field hz rfl (x := .bool false) rfl ?_)
  show wpAny _ _ (field (.ref z) 3 >>= _) _ _ _
  refine wpAny_bind (wpAny_field hz rfl (x := .ref TI) rfl (wpAny_bind (wpAny_seqItems hTI rfl ?_)))
  show wpAny _ _ (Builtin.SmallTypes.ownedTupleIsFree (.ref z) >>= _) _ _ _
  refine wpAny_bind (free_held hz hoT fun g zg b1 => ?_)
  rw [if_neg Bool.false_ne_true]
  dsimp only
  rw [← Array.forIn_toList]
  simp only [List.forIn_cons, List.forIn_nil]
  refine wpAny_bind (wpAny_bind (wpAny_bind (wpAny_holding ?_)))
  show wpAny _ _ (Builtin.SmallTypes.nextOf (.ref i1) >>= _) _ _ _
  have h1g := Draws.still D1 h1 b1.extBut Z.zf1
  by_cases c : n1 ≤ n2
  · have e : k = n1 := by omega
    subst e
    exact wpAny_bind (D1.done _ _ _ h1g fun g2 e b2 he => hE g2 e _ (fun c o c1 _ c3 _ x => b2 _ _ c3 (b1.extBut _ _ c1 x)) he)
  · have e : k = n2 := by omega
    subst e
    refine wpAny_bind (D1.item k _ _ _ (by omega) h1g fun x g2 tk1 hx h1' b2 => wpAny_pure (wpAny_pure ?_))
    dsimp only
    refine wpAny_bind (wpAny_bind (wpAny_holding ?_))
    show wpAny _ _ (Builtin.SmallTypes.nextOf (.ref i2) >>= _) _ _ _
    exact wpAny_bind (D2.done _ _ _ (Draws.still D2 (Draws.still D2 h2 b1.extBut Z.zf2) b2.extBut Z.i1f2) fun g4 e b4 he => hE g4 e _ (fun c o c1 c2 c3 c4 x => b4 _ _ c4 (b2.extBut _ _ c3 (b1.extBut _ _ c1 x))) he)
theorem zip_itemA {z TI TO i1 i2 : Addr} {f1 f2 : List Addr} {n1 n2 k1 k2 : Nat} {P1 P2 : Nat → Value → Prop} {S1 S2 : Nat → Heap → Prop} {a b : Value} {Q : Value → Shared → Prop}
    (D1 : Draws prog w A i1 f1 n1 P1 S1) (D2 : Draws prog w A i2 f2 n2 P2 S2) (Z : ZA z TI TO i1 i2 f1 f2)
    (hz : IsZip s.heap z TI TO .none ∨ ∃ T f, s.heap.get? z = some (heldZ T f TI TO)) (hTI : IsPair s.heap TI (.ref i1) (.ref i2)) (hTO : IsPair s.heap TO a b) (h1 : S1 k1 s.heap) (h2 : S2 k2 s.heap) (l1 : k1 < n1) (l2 : k2 < n2)
    (hQ : ∀ x y h' tk, P1 k1 x → P2 k2 y → (∃ T f, h'.get? z = some (heldZ T f TI TO)) → (∃ a b, IsPair h' TO a b) → S1 (k1 + 1) h' → S2 (k2 + 1) h' → IsPair h' s.heap.objs.size x y →
      (∀ c o, c ≠ z → c ≠ TO → c ≠ i1 → c ≠ i2 → s.heap.get? c = some o → h'.get? c = some o) → Q (.ref s.heap.objs.size) { s with heap := h', toks := tk }) :
    wpAny (model prog w) A (Builtin.«zip.__next__» ⟨[.ref z], []⟩) (fun fin s' => ∃ v, fin = .done (.ret v) ∧ Q v s') E s := by
  rcases hz with hz | ⟨T, f, hz⟩
  · exact zip_itemD D1 D2 Z hz hTI hTO h1 h2 l1 l2 fun x y h' tk hx hy c1 c2 c3 c4 c5 hk => hQ x y h' tk hx hy ⟨_, false, c1⟩ ⟨_, _, c2⟩ c3 c4 c5 hk
  · cases hT : s.heap.get? T with
    | none => exact zip_itemF D1 D2 Z hz hT hTI hTO h1 h2 l1 l2 fun x y h' tk hx hy c1 c2 c3 c4 c5 hk => hQ x y h' tk hx hy ⟨_, false, c1⟩ ⟨_, _, c2⟩ c3 c4 c5 hk
    | some o => exact zip_itemH D1 D2 Z hz ⟨o, hT⟩ hTI h1 h2 l1 l2 fun x y h' tk hx hy c1 c3 c4 c5 hk => hQ x y h' tk hx hy ⟨_, _, c1⟩ ⟨_, _, hk _ _ Z.TOz Z.TOi1 Z.TOi2 hTO⟩ c3 c4 c5 fun c o c1 _ c3 c4 e => hk c o c1 c3 c4 e
theorem zip_endA {z TI TO i1 i2 : Addr} {f1 f2 : List Addr} {n1 n2 k : Nat} {P1 P2 : Nat → Value → Prop} {S1 S2 : Nat → Heap → Prop} {a b : Value} {Q : Fin → Shared → Prop}
    (D1 : Draws prog w A i1 f1 n1 P1 S1) (D2 : Draws prog w A i2 f2 n2 P2 S2) (Z : ZA z TI TO i1 i2 f1 f2)
    (hz : IsZip s.heap z TI TO .none ∨ ∃ T f, s.heap.get? z = some (heldZ T f TI TO)) (hTI : IsPair s.heap TI (.ref i1) (.ref i2)) (hTO : IsPair s.heap TO a b) (h1 : S1 k s.heap) (h2 : S2 k s.heap) (hk : k = min n1 n2)
    (hE : ∀ h' e tk, (∀ c o, c ≠ z → c ≠ TO → c ≠ i1 → c ≠ i2 → s.heap.get? c = some o → h'.get? c = some o) → (∃ o, h'.get? e = some o ∧ o.cls = .type "StopIteration") → E (.ref e) { s with heap := h', toks := tk }) :
    wpAny (model prog w) A (Builtin.«zip.__next__» ⟨[.ref z], []⟩) Q E s := by
  rcases hz with hz | ⟨T, f, hz⟩
  · exact zip_endD D1 D2 Z hz hTI hTO h1 h2 hk hE
  · cases hT : s.heap.get? T with
    | none => exact zip_endF D1 D2 Z hz hT hTI hTO h1 h2 hk hE
    | some o => exact zip_endH D1 D2 Z hz ⟨o, hT⟩ hTI h1 h2 hk hE
end
open PySem.Spec PyProof.Rows
theorem turn_zipN {P : Program} {w : World} {K : PySem.W.Frag} {nm : Str} {pos : Pos} {z TI TO i1 i2 : Addr} {xs ys : List V} {ok : Hp → Prop} {S1 S2 : Nat → Heap → Prop}
    (n1 : TI ≠ z) (n2 : TO ≠ z) (n3 : i1 ≠ z) (n4 : i2 ≠ z) (n5 : TI ≠ TO) (n6 : TI ≠ i1) (n7 : TI ≠ i2) (n8 : TO ≠ i1) (n9 : TO ≠ i2) (n10 : i1 ≠ i2)
    (hD1 : ∀ (X : Cx), X.prog = P → X.w = w → X.K = K → X.calm = true → ∀ (i : Nat) (pins : List (Addr × Obj)) (s : Shared) (σ : St) (H : Hp), Inv X pins σ H s → ok H → H i1 = none → S1 i s.heap → DrawAt P w X.A.in1 i1 xs S1 H i s.heap)
    (hD2 : ∀ (X : Cx), X.prog = P → X.w = w → X.K = K → X.calm = true → ∀ (i : Nat) (pins : List (Addr × Obj)) (s : Shared) (σ : St) (H : Hp), Inv X pins σ H s → ok H → H i2 = none → S2 i s.heap → DrawAt P w X.A.in1 i2 ys S2 H i s.heap)
    (o1 : ∀ i h, S1 i h → ∃ o, h.get? i1 = some o ∧ ∀ v, o.data ≠ .cell v) (o2 : ∀ i h, S2 i h → ∃ o, h.get? i2 = some o ∧ ∀ v, o.data ≠ .cell v)
    (k1 : ∀ i h h', S1 i h → (∀ o, h.get? i1 = some o → h'.get? i1 = some o) → S1 i h') (k2 : ∀ i h h', S2 i h → (∀ o, h.get? i2 = some o → h'.get? i2 = some o) → S2 i h') :
    Turn P w K (.Name nm pos) (Izp xs ys ok) [z, TI, TO, i1, i2] z (fun i h => (IsZip h z TI TO .none ∨ ∃ T f, h.get? z = some (heldZ T f TI TO)) ∧ IsPair h TI (.ref i1) (.ref i2) ∧ (∃ a b, IsPair h TO a b) ∧ S1 i h ∧ S2 i h) where
  mem := by simp
  obj := fun i h st c hc => by
    obtain ⟨a1, a2, ⟨a, b, a3⟩, a4, a5⟩ := st
    simp only [List.mem_cons, List.not_mem_nil, or_false] at hc
    rcases hc with q | q | q | q | q <;> rw [q]
    · rcases a1 with a1 | ⟨T, f, a1⟩
      · exact ⟨_, a1, fun v q => by have q' : Data.fields _ = Data.cell v := q; cases q'⟩
      · exact ⟨_, a1, fun v q => by have q' : Data.fields _ = Data.cell v := q; cases q'⟩
    · exact ⟨_, a2, fun v q => by have q' : Data.seq _ _ = Data.cell v := q; cases q'⟩
    · exact ⟨_, a3, fun v q => by have q' : Data.seq _ _ = Data.cell v := q; cases q'⟩
    · exact o1 i h a4
    · exact o2 i h a5
  keep := fun i h h' st kk => by
    obtain ⟨a1, a2, ⟨a, b, a3⟩, a4, a5⟩ := st
    exact ⟨a1.imp (fun q => kk z (by simp) _ q) fun ⟨T, f, q⟩ => ⟨T, f, kk z (by simp) _ q⟩, kk TI (by simp) _ a2, ⟨a, b, kk TO (by simp) _ a3⟩, k1 i h h' a4 fun o q => kk i1 (by simp) o q, k2 i h h' a5 fun o q => kk i2 (by simp) o q⟩
  item := by
    intro X hP hw hK hc i pins s σ H E I hf st hg
    subst hP hw hK
    obtain ⟨a1, a2, ⟨a, b, a3⟩, a4, a5⟩ := st
    obtain ⟨hok, hl1, hl2⟩ := hg
    obtain ⟨f1, P1, T1, D1, m1, hf1, st1, r1, bk1⟩ := hD1 X rfl rfl rfl hc i pins s σ H I hok (hf i1 (by simp)).1 a4
    obtain ⟨f2, P2, T2, D2, m2, hf2, st2, r2, bk2⟩ := hD2 X rfl rfl rfl hc i pins s σ H I hok (hf i2 (by simp)).1 a5
    have out1 : ∀ c ∈ [z, TI, TO, i1, i2], c ≠ i1 → c ∉ f1 := fun c hc hn q => by
      rcases hf1 c q with e | e
      · exact hn e
      · exact e (hf c hc).1
    have out2 : ∀ c ∈ [z, TI, TO, i1, i2], c ≠ i2 → c ∉ f2 := fun c hc hn q => by
      rcases hf2 c q with e | e
      · exact hn e
      · exact e (hf c hc).1
    have Z : ZA z TI TO i1 i2 f1 f2 := ⟨n1, n2, n3, n4, n5, n6, n7, n8, n9, n10, out1 z (by simp) n3.symm, out2 z (by simp) n4.symm, out1 TO (by simp) n8, out2 TO (by simp) n9, out2 i1 (by simp) n10, out1 i2 (by simp) n10.symm⟩
    have hTy : s.TypeIs (.ref z) "zip" := by
      rcases a1 with a1 | ⟨T, f, a1⟩
      · exact ⟨_, a1, rfl⟩
      · exact ⟨_, a1, rfl⟩
    have hzlt : z < s.heap.objs.size := by
      rcases a1 with a1 | ⟨T, f, a1⟩
      · exact Heap.lt_size a1
      · exact Heap.lt_size a1
    unfold pyNext
    refine wpAny_bind (wpAny_attempt (wpAny_callSpecial?_slot (name := Str.ofString "__next__") hTy F.slot_zip_next (wpAny_call_entry F.slot_zip_next hTy F.entry_zip_next
      (zip_itemA D1 D2 Z a1 a2 a3 st1 st2 (by omega) (by omega) fun x y h2 tk hx hy c1 c2 c3 c4 c5 hk => wpAny_pure ?_) (F.args_zip_next_1 _))))
    obtain ⟨u, hu, ru⟩ := r1 _ _ hx
    obtain ⟨v, hv, rv⟩ := r2 _ _ hy
    refine ⟨.ref s.heap.objs.size, rfl, ?_⟩
    show wpAny _ _ (pure ()) _ _ _
    have kk : ∀ c u, c ∉ [z, TI, TO, i1, i2] → s.heap.get? c = some u → h2.get? c = some u := fun c u hc q => hk c u (fun e => hc (by simp [e])) (fun e => hc (by simp [e])) (fun e => hc (by simp [e])) (fun e => hc (by simp [e])) q
    have tup2 : IsTup h2 s.heap.objs.size #[x, y] := ⟨_, c5, rfl, _, rfl⟩
    refine wpAny_pure ⟨.ref s.heap.objs.size, upd H s.heap.objs.size (.tup [u, v]), I.turnedNew (t' := tk) (Nat.le_refl _) kk hf ?_, rfl, ⟨s.heap.objs.size, u, v, I.hok.fresh (Nat.le_refl _), hu, hv, rfl, rfl⟩, ?_, ?_⟩
    · exact ⟨by show 2 ≤ sizeLine; decide, [x, y], .cons ru (.cons rv .nil), tup2⟩
    · exact ⟨.inr c1, hk _ _ Z.TIz Z.TITO Z.TIi1 Z.TIi2 a2, c2, bk1 _ _ c3, bk2 _ _ c4⟩
    · intro c hc
      have hlt : c < s.heap.objs.size := by
        simp only [List.mem_cons, List.not_mem_nil, or_false] at hc
        rcases hc with q | q | q | q | q <;> rw [q]
        · exact hzlt
        · exact Heap.lt_size a2
        · exact Heap.lt_size a3
        · obtain ⟨o, ho, _⟩ := o1 i _ a4; exact Heap.lt_size ho
        · obtain ⟨o, ho, _⟩ := o2 i _ a5; exact Heap.lt_size ho
      rw [upd_ne (Nat.ne_of_lt hlt)]
      exact (hf c hc).1
  done := by
    intro X hP hw hK hc i pins s σ H E I hf st hg
    subst hP hw hK
    obtain ⟨a1, a2, ⟨a, b, a3⟩, a4, a5⟩ := st
    obtain ⟨hok, rfl⟩ := hg
    obtain ⟨f1, P1, T1, D1, m1, hf1, st1, r1, bk1⟩ := hD1 X rfl rfl rfl hc _ pins s σ H I hok (hf i1 (by simp)).1 a4
    obtain ⟨f2, P2, T2, D2, m2, hf2, st2, r2, bk2⟩ := hD2 X rfl rfl rfl hc _ pins s σ H I hok (hf i2 (by simp)).1 a5
    have out1 : ∀ c ∈ [z, TI, TO, i1, i2], c ≠ i1 → c ∉ f1 := fun c hc hn q => by
      rcases hf1 c q with e | e
      · exact hn e
      · exact e (hf c hc).1
    have out2 : ∀ c ∈ [z, TI, TO, i1, i2], c ≠ i2 → c ∉ f2 := fun c hc hn q => by
      rcases hf2 c q with e | e
      · exact hn e
      · exact e (hf c hc).1
    have Z : ZA z TI TO i1 i2 f1 f2 := ⟨n1, n2, n3, n4, n5, n6, n7, n8, n9, n10, out1 z (by simp) n3.symm, out2 z (by simp) n4.symm, out1 TO (by simp) n8, out2 TO (by simp) n9, out2 i1 (by simp) n10, out1 i2 (by simp) n10.symm⟩
    have sub : ∀ c, c ∉ [z, TI, TO, i1, i2] → c ∉ [z, TO, i1, i2] := fun c hc q => hc (by simp only [List.mem_cons, List.not_mem_nil, or_false] at q ⊢; rcases q with q | q | q | q <;> simp [q])
    have hTy : s.TypeIs (.ref z) "zip" := by
      rcases a1 with a1 | ⟨T, f, a1⟩
      · exact ⟨_, a1, rfl⟩
      · exact ⟨_, a1, rfl⟩
    unfold pyNext
    refine wpAny_bind (wpAny_attempt (wpAny_callSpecial?_slot (name := Str.ofString "__next__") hTy F.slot_zip_next (wpAny_call_entry F.slot_zip_next hTy F.entry_zip_next
      (zip_endA D1 D2 Z a1 a2 a3 st1 st2 rfl fun h' e tk hk he => ?_) (F.args_zip_next_1 _))))
    obtain ⟨o, ho, hc⟩ := he
    refine wpAny_bind (wpAny_isInstance (T := "StopIteration") (b := true) ⟨o, ho, hc⟩ isSubtype_stop ?_)
    exact wpAny_pure ⟨rfl, I.turnedL (fun c u hc q => hk c u (fun e => hc (by simp [e])) (fun e => hc (by simp [e])) (fun e => hc (by simp [e])) (fun e => hc (by simp [e])) q) hf⟩
  self := fun A i s Q E st q => by
    rcases st.1 with a1 | ⟨T, f, a1⟩
    · exact wpAny_pyIter_zip a1 q
    · have hTy : s.TypeIs (.ref z) "zip" := ⟨_, a1, rfl⟩
      refine wpAny_pyIter_slot hTy F.slot_zip_iter (wpAny_call_entry F.slot_zip_iter hTy F.entry_zip_iter ?_ (F.args_zip_iter_1 _))
      show wpAny _ _ (ret (.ref z)) _ _ s
      exact wpAny_pure ⟨_, rfl, "zip", _, hTy, F.slot_zip_next.lookup, q⟩
end L2

set_option Elab.async false
set_option linter.all false
set_option maxRecDepth 100000
namespace L2
open PySem
open Sem (wp)
abbrev zt1 (h : Heap) (l1 : Addr) : Heap := h.push { cls := .type "tuple_iterator", data := .fields #[.ref l1, .int 0 0] }
abbrev zt2 (h : Heap) (l1 l : Addr) : Heap := (zt1 h l1).push { cls := .type "tuple_iterator", data := .fields #[.ref l, .int 0 0] }
abbrev zt3 (h : Heap) (l1 l : Addr) : Heap := (zt2 h l1 l).push { cls := .type "tuple", data := .seq #[.ref h.objs.size, .ref (zt1 h l1).objs.size] }
abbrev zt4 (h : Heap) (l1 l : Addr) : Heap := (zt3 h l1 l).push { cls := .type "tuple", data := .seq #[.none, .none] }
abbrev zt5 (h : Heap) (l1 l : Addr) : Heap := (zt4 h l1 l).push { cls := .type "zip", data := .fields #[.none, .bool false, .bool false, .ref (zt2 h l1 l).objs.size, .ref (zt3 h l1 l).objs.size] }
set_option maxHeartbeats 4000000 in
theorem zip_newTT (l1 l : Addr) (xs ys : Array Value) :
    Meets (Builtin.«zip.__new__» ⟨[.type "zip", .ref l1, .ref l], []⟩) (fun _ R s => s.heap.IsTuple l1 xs ∧ s.heap.IsTuple l ys ∧
      R (.ok (.ret (.ref (zt4 s.heap l1 l).objs.size))) { s with heap := zt5 s.heap l1 l }) :=
  .of_wp fun prog w A R s h => by
    obtain ⟨hp, g, d, tk, os⟩ := s; obtain ⟨hl1, hl, h⟩ := h
    have hsub := sub_zip
    have hL : Heap.IsTuple (Shared.heap ⟨hp.push { cls := .type "tuple_iterator", data := .fields #[.ref l1, .int 0 0] }, g, d, tk, os⟩) l ys := IsTuple_push hl _
    wp_walk using wpAny_pyIter_tuple hl1, wpAny_pyIter_tuple hL
    exact ⟨_, rfl, h⟩
section
variable {prog : Program} {w : World} {A : Around} {E : Value → Shared → Prop} {s : Shared}
theorem call_zipTT {l1 l : Addr} {xs ys : Array Value} {Q : Value → Shared → Prop} (hl1 : s.heap.IsTuple l1 xs) (hl : s.heap.IsTuple l ys)
    (h : ∀ h', IsZip h' (s.heap.objs.size + 4) (s.heap.objs.size + 2) (s.heap.objs.size + 3) .none → IsPair h' (s.heap.objs.size + 2) (.ref s.heap.objs.size) (.ref (s.heap.objs.size + 1)) →
      IsPair h' (s.heap.objs.size + 3) .none .none → h'.IsTupleIter s.heap.objs.size l1 0 → h'.IsTupleIter (s.heap.objs.size + 1) l 0 →
      (∀ c o, s.heap.get? c = some o → h'.get? c = some o) → Q (.ref (s.heap.objs.size + 4)) { s with heap := h' }) :
    wpAny (model prog w) A (call (.type "zip") [.ref l1, .ref l]) Q E s := by
  refine callType_new F.called_zip (by decide) (F.typeCall_zip_2 _ _) (F.newCall_zip_2 _ _) (fun obj => F.args_object_init_3 obj _ _) F.entry_zip_new (zip_newTT l1 l xs ys) ⟨hl1, hl, ?_⟩
  have z1 : (zt1 s.heap l1).objs.size = s.heap.objs.size + 1 := Heap.size_push ..
  have z2 : (zt2 s.heap l1 l).objs.size = s.heap.objs.size + 2 := by rw [Heap.size_push, z1]
  have z3 : (zt3 s.heap l1 l).objs.size = s.heap.objs.size + 3 := by rw [Heap.size_push, z2]
  have z4 : (zt4 s.heap l1 l).objs.size = s.heap.objs.size + 4 := by rw [Heap.size_push, z3]
  have p5 : (zt5 s.heap l1 l).get? (zt4 s.heap l1 l).objs.size = some _ := Heap.get?_push_size _ rfl
  have p4 : (zt5 s.heap l1 l).get? (zt3 s.heap l1 l).objs.size = some _ := Heap.get?_push_of_some _ (Heap.get?_push_size _ rfl)
  have p3 : (zt5 s.heap l1 l).get? (zt2 s.heap l1 l).objs.size = some _ := Heap.get?_push_of_some _ (Heap.get?_push_of_some _ (Heap.get?_push_size _ rfl))
  have p2 : (zt5 s.heap l1 l).get? (zt1 s.heap l1).objs.size = some _ := Heap.get?_push_of_some _ (Heap.get?_push_of_some _ (Heap.get?_push_of_some _ (Heap.get?_push_size _ rfl)))
  have p1 : (zt5 s.heap l1 l).get? s.heap.objs.size = some _ := Heap.get?_push_of_some _ (Heap.get?_push_of_some _ (Heap.get?_push_of_some _ (Heap.get?_push_of_some _ (Heap.get?_push_size _ rfl))))
  show _ ∧ _
  rw [z2, z3, z4] at p5
  rw [z1, z2] at p3
  rw [z3] at p4
  rw [z1] at p2
  rw [z4]
  exact ⟨⟨_, p5, rfl⟩, h _ p5 p3 p4 ⟨_, p1, rfl, rfl⟩ ⟨_, p2, rfl, rfl⟩ fun c o e => Heap.get?_push_of_some _ (Heap.get?_push_of_some _ (Heap.get?_push_of_some _ (Heap.get?_push_of_some _ (Heap.get?_push_of_some _ e))))⟩
end
open PySem.Spec PyProof.Rows
section
variable {X : Cx}
/-- zip(tuple, tuple) -/
def zpItT (R : It → Hp → Prop) : V → V → Hp → Prop := fun x y H1 => match x, y with
  | .ref b, .ref a => ∃ xs ys, H1 b = some (.tup xs) ∧ H1 a = some (.tup ys) ∧ R (Izp xs ys fun H => H b = some (.tup xs) ∧ H a = some (.tup ys)) H1
  | _, _ => False
def iZipT (ta tb : TE) : TI := fun σ H R => ta σ H fun x H1 => tb σ H1 fun y H2 => zpItT R x y H2
theorem pi_zipT {nm : Str} {tpos : Pos} {a b : Expr} {ta tb : TE} {p pos : Pos} (hg : Gl X "zip") (hm : X.mg "zip" = none) (ha : PE X a ta) (hb : PE X b tb) (hs : starEach [a, b] X.env = (false, eval a X.env) :: starEach [b] X.env := by rfl) (hs2 : starEach [b] X.env = [(false, eval b X.env)] := by rfl) :
    PI X (.Name nm tpos) (.Call (.Name "zip" p) [a, b] [] pos) (iZipT ta tb) := by
  intro pins s σ H R I h
  refine Call_ (ld_blt I hg hm (by decide +kernel : bootBuiltins "zip" = some (.type "zip")) (PyProof.Rows.callWith_type1 ?_ hs (by rw [hs2]; rfl)))
  rw [hs, hs2]
  show wpAny _ _ (spliced ((false, eval a X.env) :: backTo pos [(false, eval b X.env)])) _ _ s
  refine Calls.spliced_cons (thn (ha pins s σ H _ I h) fun u s1 ⟨x, H1, I1, ru, q1⟩ => ?_)
  show wpAny _ _ (spliced ((false, eval b X.env) :: [])) _ _ s1
  refine Calls.spliced_cons (thn (hb pins s1 σ H1 _ I1 q1) fun u2 s2 ⟨y, H2, I2, ru2, q2⟩ => Calls.spliced_nil ?_)
  have q2 : zpItT R x y H2 := q2
  obtain ⟨l0, l, rfl, rfl⟩ : ∃ l0 l, x = .ref l0 ∧ y = .ref l := by
    unfold zpItT at q2
    split at q2
    · exact ⟨_, _, rfl, rfl⟩
    · exact q2.elim
  cases ru
  cases ru2
  obtain ⟨xs, ys, hl0, hl, q2⟩ := q2
  obtain ⟨its0, rv0, pl0, hz0⟩ := I2.tuple (SqT.of hl0)
  obtain ⟨its, rv, pl, hz⟩ := I2.tuple (SqT.of hl)
  refine call_zipTT pl0 pl fun h1 c1 c2 c3 c4 c5 hk => ?_
  refine wpAny_pyIter_zip c1 ?_
  refine ⟨_, [_, _, _, _, _], _, _, H2, rfl, I2.kept (t' := s2.toks) hk, turn_zipN (z := s2.heap.objs.size + 4) (TI := s2.heap.objs.size + 2) (TO := s2.heap.objs.size + 3) (i1 := s2.heap.objs.size) (i2 := s2.heap.objs.size + 1) (ok := fun H => H l0 = some (.tup xs) ∧ H l = some (.tup ys)) (xs := xs) (ys := ys)
    (S1 := fun i h => h.IsTupleIter s2.heap.objs.size l0 i) (S2 := fun i h => h.IsTupleIter (s2.heap.objs.size + 1) l i) (zn1 (by decide)) (zn1 (by decide)) (zn2 (by decide)) (zn1 (by decide)) (zn1 (by decide)) (zn3 (by decide)) (zn1 (by decide)) (zn3 (by decide)) (zn1 (by decide)) (zn2 (by decide)) ?_ ?_ ?_ ?_ ?_ ?_, ⟨.inl c1, c2, ⟨_, _, c3⟩, c4, c5⟩, ?_, q2⟩
  · intro X' h1 h2 h3 hc i pins s σ H I ok hn st
    exact h1 ▸ h2 ▸ drawTup hc I (SqT.of ok.1) hn (by rw [ok.1]; exact fun z => nomatch z) st
  · intro X' h1 h2 h3 hc i pins s σ H I ok hn st
    exact h1 ▸ h2 ▸ drawTup hc I (SqT.of ok.2) hn (by rw [ok.2]; exact fun z => nomatch z) st
  · intro i h st
    obtain ⟨o, ho, hc, hd⟩ := st
    exact ⟨o, ho, fun v q => by rw [hd] at q; cases q⟩
  · intro i h st
    obtain ⟨o, ho, hc, hd⟩ := st
    exact ⟨o, ho, fun v q => by rw [hd] at q; cases q⟩
  · intro i h h' st kk
    exact st.at kk
  · intro i h h' st kk
    exact st.at kk
  · intro c hc
    have hle : s2.heap.objs.size ≤ c := by
      simp only [List.mem_cons, List.not_mem_nil, or_false] at hc
      rcases hc with q | q | q | q | q <;> rw [q] <;> first | exact Nat.le_add_right _ _ | exact Nat.le_refl _
    exact I2.fpOk hle (I2.hok.fresh hle)
end
end L2

set_option Elab.async false
set_option linter.all false
namespace L2
open PySem PySem.Spec
set_option maxRecDepth 100000
section
variable {prog : Program} {w : World} {A : Around} {E : Value → Shared → Prop} {s : Shared}
end
end L2

set_option Elab.async false
set_option linter.all false
namespace L2
open PySem PySem.Spec PyProof.Rows
section
variable {X : Cx}
theorem vals_of {P : Nat → Value → Prop} {g : Nat → V} (hP : ∀ i v, P i v → RelV (g i) v) {acc : Array Value} {n : Nat} (h : ItemsOf P acc n) : Vals ((List.range n).map g) acc.toList := by
  obtain ⟨h1, h2⟩ := h
  have gen : ∀ (l : List Value) (k : Nat), (∀ j v, l[j]? = some v → RelV (g (k + j)) v) → Vals ((List.range' k l.length).map g) l := by
    intro l
    induction l with
    | nil => intro k _; exact .nil
    | cons x l ih =>
      intro k hk
      rw [List.length_cons, List.range'_succ, List.map_cons]
      exact .cons (by have := hk 0 x rfl; simpa using this) (ih (k + 1) fun j v hv => by have := hk (j + 1) v (by simpa using hv); rw [show k + 1 + j = k + (j + 1) by omega]; exact this)
  have := gen acc.toList 0 fun j v hv => hP _ _ (h2 _ _ (by rw [Nat.zero_add, ← Array.getElem?_toList]; exact hv))
  rw [Array.length_toList, h1, ← List.range_eq_range'] at this
  exact this
end
end L2

set_option Elab.async false
set_option linter.all false
set_option maxRecDepth 100000
namespace L2
open PySem PySem.Spec PyProof.Rows
/-! ### list(zip(a, b)), two lists -/
theorem nolen_zip : typeLookup (.type "zip") "__len__" = pure none := by rw [typeLookup_type, builtinLookup_eq_fast]; kernel_rfl
theorem nohint_zip : typeLookup (.type "zip") "__length_hint__" = pure none := by rw [typeLookup_type, builtinLookup_eq_fast]; kernel_rfl
/-- zip's state at turn i -/
def ZSt (h : Heap) (z TI TO i1 i2 l1 l2 : Addr) (xs ys : Array Value) (i : Nat) : Prop :=
  (IsZip h z TI TO .none ∨ ∃ T f, h.get? z = some (heldZ T f TI TO)) ∧ IsPair h TI (.ref i1) (.ref i2) ∧ (∃ a b, IsPair h TO a b) ∧ (h.IsListIter i1 l1 i ∧ h.IsList l1 xs) ∧ (h.IsListIter i2 l2 i ∧ h.IsList l2 ys)
/-- the tuples gathered so far -/
def Got (h : Heap) (xs ys acc : Array Value) (i : Nat) : Prop := acc.size = i ∧ ∀ j, j < i → ∃ T x y, acc[j]? = some (.ref T) ∧ IsPair h T x y ∧ xs[j]? = some x ∧ ys[j]? = some y
section
variable {prog : Program} {w : World} {A : Around} {E : Value → Shared → Prop} {s : Shared} {z TI TO i1 i2 l1 l2 S : Addr} {xs ys : Array Value} {R : Result → Shared → Prop}
theorem zst_keep {h h' : Heap} {i : Nat} (st : ZSt h z TI TO i1 i2 l1 l2 xs ys i) (kk : ∀ c ∈ [z, TI, TO, i1, i2, l1, l2], ∀ o, h.get? c = some o → h'.get? c = some o) : ZSt h' z TI TO i1 i2 l1 l2 xs ys i := by
  obtain ⟨a1, a2, ⟨a, b, a3⟩, ⟨a4, a5⟩, a6, a7⟩ := st
  refine ⟨a1.imp (fun q => kk z (by simp) _ q) fun ⟨T, f, q⟩ => ⟨T, f, kk z (by simp) _ q⟩, kk TI (by simp) _ a2, ⟨a, b, kk TO (by simp) _ a3⟩, ⟨a4.at fun o e => kk i1 (by simp) o e, a5.at fun o e => kk l1 (by simp) o e⟩, a6.at fun o e => kk i2 (by simp) o e, a7.at fun o e => kk l2 (by simp) o e⟩
theorem zip_type {h : Heap} {i : Nat} (st : ZSt h z TI TO i1 i2 l1 l2 xs ys i) (hs : s.heap = h) : s.TypeIs (.ref z) "zip" := by
  subst hs
  rcases st.1 with a1 | ⟨T, f, a1⟩
  · exact ⟨_, a1, rfl⟩
  · exact ⟨_, a1, rfl⟩
theorem zip_gather (hh : A.handled = none) (Z : ZA z TI TO i1 i2 [i1, l1] [i2, l2]) (hl1 : l1 ≠ i1) (hl2 : l2 ≠ i2) (n : Nat) (hn : n = min xs.size ys.size) (hz : n ≤ sizeLine) (hS : S ∉ [z, TI, TO, i1, i2, l1, l2]) (res : Value) :
    ∀ (k i : Nat) (s : Shared) (acc : Array Value) (c : Nat), n - i = k → i ≤ n → ZSt s.heap z TI TO i1 i2 l1 l2 xs ys i → s.heap.get? S = some { cls := .type "list", dict := none, data := .seq acc c, slots := #[] } → Got s.heap xs ys acc i →
    (∀ j, j < i → ∀ T, acc[j]? = some (.ref T) → S < T ∧ T ∉ [z, TI, TO, i1, i2, l1, l2]) →
    (∀ h' tk acc' c', (∀ b o, b ∉ [S, z, TO, i1, i2] → s.heap.get? b = some o → h'.get? b = some o) → h'.get? S = some { cls := .type "list", dict := none, data := .seq acc' c', slots := #[] } → Got h' xs ys acc' n → (∀ j, j < n → ∀ T, acc'[j]? = some (.ref T) → S < T) → R (.ok (.ret res)) { s with heap := h', toks := tk }) →
    codeAny (model prog w) A (.builtin "list.extend.loop" ⟨[.ref S, .ref z, res], []⟩) R s := by
  have D1 := Draws.list (prog := prog) (w := w) (A := A.in1.in1) (by simpa using hh) i1 l1 hl1 xs
  have D2 := Draws.list (prog := prog) (w := w) (A := A.in1.in1) (by simpa using hh) i2 l2 hl2 ys
  intro k
  induction k with
  | zero =>
    intro i s acc c hk hi st hSo hg hT hR
    obtain rfl : i = n := by omega
    have hTy := zip_type (s := s) st rfl
    obtain ⟨a1, a2, ⟨a, b, a3⟩, a4, a5⟩ := st
    refine codeAny_builtin F.entry_extend_loop (by
      rw [Around.under_plainId F.plain_extend_loop _]
      show wpAny _ A.in1 (pyNext (.ref z) >>= _) _ _ s
      unfold pyNext
      refine wpAny_bind (wpAny_bind (wpAny_attempt (wpAny_callSpecial?_slot (name := Str.ofString "__next__") hTy F.slot_zip_next (wpAny_call_entry F.slot_zip_next hTy F.entry_zip_next
        (zip_endA D1 D2 Z a1 a2 a3 a4 a5 hn fun h' e tk hk' he => ?_) (F.args_zip_next_1 _)))))
      obtain ⟨o, ho, hc⟩ := he
      refine wpAny_bind (wpAny_isInstance (T := "StopIteration") (b := true) ⟨o, ho, hc⟩ isSubtype_stop ?_)
      have hSS : h'.get? S = _ := hk' S _ (fun q => hS (by simp [q])) (fun q => hS (by simp [q])) (fun q => hS (by simp [q])) (fun q => hS (by simp [q])) hSo
      refine wpAny_pure (wpAny_pure (hR h' tk acc c (fun b o hb e => hk' b o (fun q => hb (by simp [q])) (fun q => hb (by simp [q])) (fun q => hb (by simp [q])) (fun q => hb (by simp [q])) e) hSS ⟨hg.1, fun j hj => ?_⟩ fun j hj T e => (hT j hj T e).1))
      obtain ⟨T, x, y, e1, e2, e3, e4⟩ := hg.2 j hj
      have ht := (hT j hj T e1).2
      exact ⟨T, x, y, e1, hk' T _ (fun q => ht (by simp [q])) (fun q => ht (by simp [q])) (fun q => ht (by simp [q])) (fun q => ht (by simp [q])) e2, e3, e4⟩)
  | succ k ih =>
    intro i s acc c hk hi st hSo hg hT hR
    have hlt : i < n := by omega
    have hTy := zip_type (s := s) st rfl
    have st' := st
    obtain ⟨a1, a2, ⟨a, b, a3⟩, a4, a5⟩ := st
    refine codeAny_builtin F.entry_extend_loop (by
      rw [Around.under_plainId F.plain_extend_loop _]
      show wpAny _ A.in1 (pyNext (.ref z) >>= _) _ _ s
      unfold pyNext
      refine wpAny_bind (wpAny_bind (wpAny_attempt (wpAny_callSpecial?_slot (name := Str.ofString "__next__") hTy F.slot_zip_next (wpAny_call_entry F.slot_zip_next hTy F.entry_zip_next
        (zip_itemA D1 D2 Z a1 a2 a3 a4 a5 (by omega) (by omega) fun x y h2 tk hx hy c1 c2 c3 c4 c5 hk' => wpAny_pure ?_) (F.args_zip_next_1 _)))))
      have kp : ∀ c o, c ∉ [z, TO, i1, i2] → s.heap.get? c = some o → h2.get? c = some o := fun c o hc e => hk' c o (fun q => hc (by simp [q])) (fun q => hc (by simp [q])) (fun q => hc (by simp [q])) (fun q => hc (by simp [q])) e
      have hSS : h2.get? S = _ := kp S _ (fun q => hS (by simp only [List.mem_cons, List.not_mem_nil, or_false] at q ⊢; rcases q with q | q | q | q <;> simp [q])) hSo
      show wpAny _ A.in1 (updateSeq S (·.push (.ref s.heap.objs.size)) >>= _) _ _ _
      refine wpAny_bind (wpAny_updateSeq hSS rfl (wpAny_pure ⟨plainId_quiet F.plain_extend_loop _, ih (i + 1) _ (acc.push (.ref s.heap.objs.size)) _ (by omega) hlt ?st (Heap.get?_update_self _ hSS rfl) ?got ?ne ?cont⟩) (by rw [hg.1]; omega) (by show (acc.push _).size ≤ sizeLine + 1; rw [Array.size_push, hg.1]; omega))
      case st =>
        have st2 : ZSt h2 z TI TO i1 i2 l1 l2 xs ys (i + 1) := ⟨.inr c1, hk' _ _ Z.TIz Z.TITO Z.TIi1 Z.TIi2 a2, c2, c3, c4⟩
        refine zst_keep st2 fun c hc o e => ?_
        exact (Heap.get?_update_other _ _ (fun q : S = c => hS (by rw [q]; exact hc))).trans e
      case got =>
        have sne : s.heap.objs.size ≠ S := (Nat.ne_of_lt (Heap.lt_size hSo)).symm
        refine ⟨by rw [Array.size_push, hg.1], fun j hj => ?_⟩
        by_cases hji : j = i
        · subst hji
          refine ⟨s.heap.objs.size, x, y, by rw [Array.getElem?_push, if_pos hg.1.symm], (Heap.get?_update_other _ _ sne.symm).trans c5, hx, hy⟩
        · obtain ⟨T, x', y', e1, e2, e3, e4⟩ := hg.2 j (by omega)
          obtain ⟨t1, t2⟩ := hT j (by omega) T e1
          refine ⟨T, x', y', by rw [Array.getElem?_push, if_neg (by rw [hg.1]; omega)]; exact e1, (Heap.get?_update_other _ _ (Nat.ne_of_lt t1)).trans (kp T _ (fun q => t2 (by simp only [List.mem_cons, List.not_mem_nil, or_false] at q ⊢; rcases q with q | q | q | q <;> simp [q])) e2), e3, e4⟩
      case ne =>
        intro j hj T e1
        by_cases hji : j = i
        · subst hji
          rw [Array.getElem?_push, if_pos hg.1.symm] at e1
          have e1 : s.heap.objs.size = T := by injection e1 with e1; injection e1
          subst e1
          refine ⟨Heap.lt_size hSo, fun q => ?_⟩
          have lt : ∀ c ∈ [z, TI, TO, i1, i2, l1, l2], c < s.heap.objs.size := fun c hc => by
            obtain ⟨b1, b2, ⟨_, _, b3⟩, ⟨b4, b5⟩, b6, b7⟩ := st'
            simp only [List.mem_cons, List.not_mem_nil, or_false] at hc
            rcases hc with h | h | h | h | h | h | h <;> rw [h]
            · rcases b1 with b1 | ⟨_, _, b1⟩ <;> exact Heap.lt_size b1
            · exact Heap.lt_size b2
            · exact Heap.lt_size b3
            · obtain ⟨o, ho, _⟩ := b4; exact Heap.lt_size ho
            · obtain ⟨o, ho, _⟩ := b6; exact Heap.lt_size ho
            · obtain ⟨o, ho, _⟩ := b5; exact Heap.lt_size ho
            · obtain ⟨o, ho, _⟩ := b7; exact Heap.lt_size ho
          exact Nat.lt_irrefl _ (lt _ q)
        · rw [Array.getElem?_push, if_neg (by rw [hg.1]; omega)] at e1
          exact hT j (by omega) T e1
      case cont =>
        intro h' tk' acc' c' hkk hS' hg' hgt
        refine hR h' tk' acc' c' (fun b o hb e => hkk b o hb ?_) hS' hg' hgt
        have hbS : b ≠ S := fun q => hb (by simp [q])
        exact (Heap.get?_update_other _ _ hbS.symm).trans (kp b o (fun q => hb (by simp only [List.mem_cons, List.not_mem_nil, or_false] at q ⊢; rcases q with q | q | q | q <;> simp [q])) e))
/-- list(zip object) -/
theorem call_list_zip {Q : Value → Shared → Prop} (hh : A.handled = none) (Z : ZA z TI TO i1 i2 [i1, l1] [i2, l2]) (hl1 : l1 ≠ i1) (hl2 : l2 ≠ i2) (n : Nat) (hn : n = min xs.size ys.size) (hz : n ≤ sizeLine) (st : ZSt s.heap z TI TO i1 i2 l1 l2 xs ys 0) (hz0 : IsZip s.heap z TI TO .none)
    (hQ : ∀ h' tk acc c, (∀ b o, b ∉ [z, TO, i1, i2] → s.heap.get? b = some o → h'.get? b = some o) → h'.get? s.heap.objs.size = some { cls := .type "list", dict := none, data := .seq acc c, slots := #[] } → Got h' xs ys acc n → (∀ j, j < n → ∀ T, acc[j]? = some (.ref T) → s.heap.objs.size < T) → Q (.ref s.heap.objs.size) { s with heap := h', toks := tk }) :
    wpAny (model prog w) A (call (.type "list") [.ref z]) Q E s := by
  have lt : ∀ c ∈ [z, TI, TO, i1, i2, l1, l2], c < s.heap.objs.size := fun c hc => by
    obtain ⟨b1, b2, ⟨_, _, b3⟩, ⟨b4, b5⟩, b6, b7⟩ := st
    simp only [List.mem_cons, List.not_mem_nil, or_false] at hc
    rcases hc with h | h | h | h | h | h | h <;> rw [h]
    · rcases b1 with b1 | ⟨_, _, b1⟩ <;> exact Heap.lt_size b1
    · exact Heap.lt_size b2
    · exact Heap.lt_size b3
    · obtain ⟨o, ho, _⟩ := b4; exact Heap.lt_size ho
    · obtain ⟨o, ho, _⟩ := b6; exact Heap.lt_size ho
    · obtain ⟨o, ho, _⟩ := b5; exact Heap.lt_size ho
    · obtain ⟨o, ho, _⟩ := b7; exact Heap.lt_size ho
  have hSf : s.heap.objs.size ∉ [z, TI, TO, i1, i2, l1, l2] := fun hm => Nat.lt_irrefl _ (lt _ hm)
  refine callType_codes (Q₁ := fun obj s₁ => obj = .ref s.heap.objs.size ∧ s₁ = { s with heap := s.heap.push { cls := .type "list", data := .seq #[] } }) F.called_list (F.typeCall_list_1 _) F.entry_list_init
    (code_list_new _ ⟨rfl, rfl⟩) fun obj s₁ h₁ => ?_
  obtain ⟨rfl, rfl⟩ := h₁
  have hS0 : (s.heap.push { cls := .type "list", data := .seq #[] }).get? s.heap.objs.size = some { cls := .type "list", data := .seq #[] } := Heap.get?_push_size _ rfl
  refine ⟨⟨_, hS0, rfl⟩, F.args_list_init_2 _ _, ?_⟩
  show wpAny _ A.in1.in1 (do let old ← Builtin.List.listItems (.ref s.heap.objs.size); Builtin.List.listUpdate (.ref s.heap.objs.size) (fun _ => #[]); letGo old.toList.reverse; Builtin.List.listExtendWith (.ref s.heap.objs.size) (.ref z) .none) _ _ _
  refine wpAny_bind ?_
  unfold Builtin.List.listItems
  refine wpAny_bind (wpAny_seqItems hS0 rfl (wpAny_pure ?_))
  show wpAny _ A.in1.in1 (updateSeq s.heap.objs.size (fun _ => #[]) >>= fun _ => letGo (#[] : Array Value).toList.reverse >>= fun _ => Builtin.List.listExtendWith (.ref s.heap.objs.size) (.ref z) .none) _ _ _
  refine wpAny_bind (wpAny_updateSeq hS0 rfl ?_)
  have hS2 := Heap.get?_update_self (Obj.mapSeq (fun _ => (#[] : Array Value))) hS0 rfl
  have oth : ∀ b o, b ≠ s.heap.objs.size → s.heap.get? b = some o → ((s.heap.push { cls := .type "list", data := .seq #[] }).update s.heap.objs.size (Obj.mapSeq (fun _ => (#[] : Array Value)))).get? b = some o :=
    fun b o hb e => (Heap.get?_update_other _ _ (Ne.symm hb)).trans (Heap.get?_push_of_some _ e)
  refine wpAny_bind (wpAny_letGo ?_)
  have st2 : ZSt ((s.heap.push { cls := .type "list", data := .seq #[] }).update s.heap.objs.size (Obj.mapSeq (fun _ => (#[] : Array Value)))) z TI TO i1 i2 l1 l2 xs ys 0 := zst_keep st fun c hc o e => oth c o (Nat.ne_of_lt (lt c hc)) e
  generalize (s.heap.push { cls := .type "list", data := .seq #[] }).update s.heap.objs.size (Obj.mapSeq (fun _ => (#[] : Array Value))) = hp at hS2 oth st2 ⊢
  have h1 : Builtin.List.listSameRef (.ref s.heap.objs.size) (.ref z) = false := by
    simp [Builtin.List.listSameRef, (Nat.ne_of_lt (lt z (by simp))).symm]
  have hTy : Shared.TypeIs { s with heap := hp } (.ref z) "zip" := zip_type (s := { s with heap := hp }) st2 rfl
  unfold Builtin.List.listExtendWith
  refine wpAny_bind (wpAny_typeOf hTy ?_)
  rw [if_neg (by rw [h1]; decide)]
  have hz2 : IsZip hp z TI TO .none := oth z _ (Nat.ne_of_lt (lt z (by simp))) hz0
  refine wpAny_bind (wpAny_pyIter_zip (s := { s with heap := hp }) hz2 ?_)
  refine wpAny_bind (wpAny_holding (by
    unfold Builtin.List.listLengthHint
    refine wpAny_bind (wpAny_specialOf hTy nolen_zip ?_)
    show wpAny _ A.in1.in1 (specialOf (Value.ref z) (Str.ofString "__length_hint__") >>= _) _ _ _
    refine wpAny_bind (wpAny_specialOf hTy nohint_zip (wpAny_pure ?_))
    show wpAny _ A.in1.in1 (rule "list.extend.makes-room" >>= fun _ => Builtin.List.listTouch (.ref s.heap.objs.size) >>= fun _ => again (.builtin "list.extend.loop" ⟨[.ref s.heap.objs.size, .ref z, .none], []⟩)) _ _ _
    refine wpAny_bind (wpAny_rule (wpAny_bind ?_))
    show wpAny _ A.in1.in1 (updateSeq s.heap.objs.size (·.push .none) >>= fun _ => updateSeq s.heap.objs.size (·.pop)) _ _ _
    refine wpAny_bind (wpAny_updateSeq hS2 rfl ?_)
    have hS3 := Heap.get?_update_self (Obj.mapSeq (·.push Value.none)) hS2 rfl
    refine wpAny_updateSeq hS3 rfl ?_
    have hS4 := Heap.get?_update_self (Obj.mapSeq (·.pop)) hS3 rfl
    have o4 : ∀ b o, b ≠ s.heap.objs.size → hp.get? b = some o → ((hp.update s.heap.objs.size (Obj.mapSeq (·.push Value.none))).update s.heap.objs.size (Obj.mapSeq (·.pop))).get? b = some o := fun b o hb e =>
      (Heap.get?_update_other _ _ (Ne.symm hb)).trans ((Heap.get?_update_other _ _ (Ne.symm hb)).trans e)
    generalize (hp.update s.heap.objs.size (Obj.mapSeq (·.push Value.none))).update s.heap.objs.size (Obj.mapSeq (·.pop)) = h4 at hS4 o4 ⊢
    have st4 : ZSt h4 z TI TO i1 i2 l1 l2 xs ys 0 := zst_keep st2 fun c hc o e => o4 c o (Nat.ne_of_lt (lt c hc)) e
    refine wpAny_pure ⟨plainId_quiet F.plain_extend_loop _, zip_gather (A := A.in1) (by simpa using hh) Z hl1 hl2 n hn hz hSf .none n 0 { s with heap := h4 } #[] _ (by omega) (Nat.zero_le _) st4 hS4 ⟨rfl, fun j hj => absurd hj (Nat.not_lt_zero j)⟩ (fun j hj => absurd hj (Nat.not_lt_zero j)) fun h' tk acc' c' hk hS' hg hgt => ?_⟩
    refine ⟨rfl, hQ h' tk acc' c' (fun b o hb e => ?_) hS' hg hgt⟩
    have hbs : b ≠ s.heap.objs.size := Nat.ne_of_lt (Heap.lt_size e)
    exact hk b o (fun q => by
      rcases List.mem_cons.mp q with q | q
      · exact hbs q
      · exact hb q) (o4 b o hbs (oth b o hbs e))))
end
end L2

set_option Elab.async false
set_option linter.all false
set_option maxRecDepth 100000
namespace L2
open PySem PySem.Spec PyProof.Rows
section
variable {X : Cx} {pins : List (Addr × Obj)} {σ : St} {H H' : Hp} {s : Shared} {h' : Heap}
/-- many new objects are tracked at once -/
theorem Inv.laidAll {t' : Nat} (I : Inv X pins σ H s) (k : ∀ b u, s.heap.get? b = some u → h'.get? b = some u) (old : ∀ b o, H b = some o → H' b = some o) (none_ : ∀ b, b < s.heap.objs.size → H b = none → H' b = none)
    (new : ∀ b o, H' b = some o → H b = none → ObjOk X.prog X.w H' h' b o) : Inv X pins σ H' { s with heap := h', toks := t' } := by
  refine I.un ⟨fun b o q _ _ _ => k b o q, fun b o q _ _ _ => ⟨o.slots, k b o q⟩, fun b o q n _ => none_ b (Heap.lt_size q) n, fun b o q _ => ⟨o, k b o q⟩, fun b xs e => old b _ e, fun b o u e => old b _ e, fun b ps e => ⟨#[], by simpa using old b _ e⟩⟩ fun b o e => ?_
  cases q : H b with
  | none => exact new b o e q
  | some o' =>
    have e' : o' = o := by rw [old b o' q] at e; injection e
    subst e'
    exact (I.hok b o' q).stay (fun c u _ q => k c u q) (fun c q => old c _ q) fun c xs q => old c _ q
end
theorem relV_inj {u v : V} {x : Value} (a : RelV u x) (b : RelV v x) : u = v := by
  cases u <;> cases v <;> simp only [RelV] at a b <;> first
    | (subst a; cases b; done)
    | (obtain ⟨t, rfl⟩ := a; obtain ⟨t', b⟩ := b; cases b; rfl)
    | (obtain ⟨t, rfl⟩ := a; cases b; done)
    | (obtain ⟨t, rfl⟩ := a; obtain ⟨t', b⟩ := b; cases b; done)
    | (subst a; obtain ⟨t', b⟩ := b; cases b; done)
    | (subst a; cases b; rfl)
    | rfl
section
variable {X : Cx}
/-- list(zip(a, b)), two lists: a new list of new tuples -/
def tListZip (ta tb : TE) : TE := fun σ H Q => ta σ H fun x H1 => tb σ H1 fun y H2 => ∃ (l1 l2 : Addr) (xs ys : List V), x = .ref l1 ∧ y = .ref l2 ∧ H2 l1 = some (.lst xs) ∧ H2 l2 = some (.lst ys) ∧ l1 ≠ l2 ∧ xs.length = ys.length ∧
  ∀ (q : Addr) (Ts : List Addr) (H3 : Hp), H2 q = none → H3 q = some (.lst (Ts.map V.ref)) → Ts.length = xs.length → (∀ (j : Nat) T, Ts[j]? = some T → ∃ x y, xs[j]? = some x ∧ ys[j]? = some y ∧ H3 T = some (.tup [x, y])) → Same H2 H3 → Q (.ref q) H3
theorem pe_listZip {a b : Expr} {ta tb : TE} {p p2 pos pos2 : Pos} (hc : X.calm = true) (hgl : Gl X "list") (hml : X.mg "list" = none) (hgr : Gl X "zip") (hmr : X.mg "zip" = none) (ha : PE X a ta) (hb : PE X b tb)
    (hs : starEach [Expr.Call (.Name "zip" p2) [a, b] [] pos2] X.env = [(false, eval (.Call (.Name "zip" p2) [a, b] [] pos2) X.env)] := by rfl) (hs2 : starEach [a, b] X.env = (false, eval a X.env) :: starEach [b] X.env := by rfl) (hs3 : starEach [b] X.env = [(false, eval b X.env)] := by rfl) :
    PE X (.Call (.Name "list" p) [.Call (.Name "zip" p2) [a, b] [] pos2] [] pos) (tListZip ta tb) := by
  intro pins s σ H Q I h
  refine Call_ (ld_blt I hgl hml (by decide +kernel : bootBuiltins "list" = some (.type "list")) (PyProof.Rows.callWith_type1 ?_ hs rfl))
  rw [hs]
  show wpAny _ _ (spliced ((false, eval (.Call (.Name "zip" p2) [a, b] [] pos2) X.env) :: [])) _ _ s
  refine Calls.spliced_cons ?_
  refine Call_ (ld_blt I hgr hmr (by decide +kernel : bootBuiltins "zip" = some (.type "zip")) (PyProof.Rows.callWith_type1 ?_ hs2 (by rw [hs3]; rfl)))
  rw [hs2, hs3]
  show wpAny _ _ (spliced ((false, eval a X.env) :: backTo pos2 [(false, eval b X.env)])) _ _ s
  refine Calls.spliced_cons (thn (ha pins s σ H _ I h) fun u s1 ⟨x, H1, I1, ru, q1⟩ => ?_)
  show wpAny _ _ (spliced ((false, eval b X.env) :: [])) _ _ s1
  refine Calls.spliced_cons (thn (hb pins s1 σ H1 _ I1 q1) fun u2 s2 ⟨y, H2, I2, ru2, q2⟩ => Calls.spliced_nil ?_)
  obtain ⟨l1, l2, xs, ys, rfl, rfl, e1, e2, hne, hlen, q⟩ := q2
  cases ru
  cases ru2
  obtain ⟨its1, rv1, pl1, hz1⟩ := I2.list (SqL.of e1)
  obtain ⟨its2, rv2, pl2, hz2⟩ := I2.list (SqL.of e2)
  refine call_zip_2 pl1.isList pl2.isList fun h1 c1 c2 c3 c4 c5 c6 hk => Calls.spliced_nil ?_
  have lt1 : l1 < s2.heap.objs.size := by obtain ⟨o, ho, _⟩ := pl1.isList; exact Heap.lt_size ho
  have lt2 : l2 < s2.heap.objs.size := by obtain ⟨o, ho, _⟩ := pl2.isList; exact Heap.lt_size ho
  have ne1 : ∀ k, l1 ≠ s2.heap.objs.size + k := fun k => Nat.ne_of_lt (Nat.lt_of_lt_of_le lt1 (Nat.le_add_right _ _))
  have ne2 : ∀ k, l2 ≠ s2.heap.objs.size + k := fun k => Nat.ne_of_lt (Nat.lt_of_lt_of_le lt2 (Nat.le_add_right _ _))
  have Z : ZA (s2.heap.objs.size + 4) (s2.heap.objs.size + 2) (s2.heap.objs.size + 3) s2.heap.objs.size (s2.heap.objs.size + 1) [s2.heap.objs.size, l1] [s2.heap.objs.size + 1, l2] := by
    refine ⟨zn1 (by decide), zn1 (by decide), zn2 (by decide), zn1 (by decide), zn1 (by decide), zn3 (by decide), zn1 (by decide), zn3 (by decide), zn1 (by decide), zn2 (by decide), ?_, ?_, ?_, ?_, ?_, ?_⟩ <;>
    · simp only [List.mem_cons, List.not_mem_nil, or_false, not_or]
      first
        | exact ⟨zn3 (by decide), (ne1 _).symm⟩
        | exact ⟨zn1 (by decide), (ne2 _).symm⟩
        | exact ⟨zn2 (by decide), (ne2 0).symm⟩
        | exact ⟨zn3 (by decide), (ne1 _).symm⟩
  have hl1 := rv1.length
  have hl2 := rv2.length
  have st : ZSt h1 (s2.heap.objs.size + 4) (s2.heap.objs.size + 2) (s2.heap.objs.size + 3) s2.heap.objs.size (s2.heap.objs.size + 1) l1 l2 its1.toArray its2.toArray 0 :=
    ⟨.inl c1, c2, ⟨_, _, c3⟩, ⟨c4, pl1.isList.at fun o e => hk l1 o e⟩, c5, pl2.isList.at fun o e => hk l2 o e⟩
  refine call_list_zip (s := { s2 with heap := h1 }) (I2.ok.hd hc) Z (ne1 0) (ne2 1) xs.length (by rw [List.size_toArray, List.size_toArray, ← hl1, ← hl2, hlen, Nat.min_self]) hz1 st c1 fun h3 tk acc c hk3 hS3 hg hgt => ?_
  have kk : ∀ b o, s2.heap.get? b = some o → h3.get? b = some o := fun b o e => hk3 b o (fun m => by
    have := Heap.lt_size e
    simp only [List.mem_cons, List.not_mem_nil, or_false] at m
    rcases m with m | m | m | m <;> (subst m; first | exact absurd this (Nat.not_lt_of_le (Nat.le_add_right _ _)) | exact absurd this (Nat.lt_irrefl _))) (hk b o e)
  have hsz1 : h1.objs.size = s2.heap.objs.size + 5 := c6
  have hTs : ∀ j, j < xs.length → ∃ T x y, acc[j]? = some (.ref T) ∧ IsPair h3 T x y ∧ its1[j]? = some x ∧ its2[j]? = some y ∧ h1.objs.size < T := fun j hj => by
    obtain ⟨T, x, y, a1, a2, a3, a4⟩ := hg.2 j hj
    exact ⟨T, x, y, a1, a2, by simpa using a3, by simpa using a4, hgt j hj T a1⟩
  obtain ⟨Ts, hTl, hT⟩ : ∃ Ts : List Addr, acc.toList = Ts.map Value.ref ∧ Ts.length = xs.length := by
    refine ⟨acc.toList.map fun v => match v with | .ref T => T | _ => 0, ?_, by rw [List.length_map, Array.length_toList]; exact hg.1⟩
    rw [List.map_map]
    apply List.ext_getElem?
    intro j
    rw [List.getElem?_map, Array.getElem?_toList]
    by_cases hj : j < xs.length
    · obtain ⟨T, _, _, a1, _⟩ := hTs j hj
      rw [a1]; rfl
    · rw [Array.getElem?_eq_none (by rw [hg.1]; omega)]; rfl
  have hTj : ∀ (j : Nat) T, Ts[j]? = some T → ∃ u v x y, xs[j]? = some u ∧ ys[j]? = some v ∧ RelV u x ∧ RelV v y ∧ IsPair h3 T x y ∧ h1.objs.size < T := fun j T e => by
    have hj : j < xs.length := by rw [← hT]; exact (List.getElem?_eq_some_iff.mp e).1
    obtain ⟨T', x, y, a1, a2, a3, a4, a5⟩ := hTs j hj
    have : acc.toList[j]? = some (.ref T) := by rw [hTl, List.getElem?_map, e]; rfl
    rw [Array.getElem?_toList, a1] at this
    have this : T' = T := by injection this with this; injection this
    subst this
    obtain ⟨x', hx', rx⟩ := rv1.get (i := j) (x := xs[j]) (by simp [hj])
    obtain ⟨y', hy', ry⟩ := rv2.get (i := j) (x := ys[j]'(by omega)) (by rw [List.getElem?_eq_getElem])
    rw [a3] at hx'
    rw [a4] at hy'
    cases hx'
    cases hy'
    exact ⟨xs[j], ys[j]'(by omega), x, y, List.getElem?_eq_getElem hj, List.getElem?_eq_getElem _, rx, ry, a2, a5⟩
  generalize hqd : h1.objs.size = qa at hS3 hgt hTj hsz1
  have hqn : H2 qa = none := I2.hok.fresh (by rw [hsz1]; exact Nat.le_add_right _ _)
  have hTn : ∀ T ∈ Ts, H2 T = none ∧ T ≠ qa := fun T hm => by
    obtain ⟨j, hj⟩ := List.mem_iff_getElem?.mp hm
    obtain ⟨_, _, _, _, _, _, _, _, _, g⟩ := hTj j T hj
    exact ⟨I2.hok.fresh (Nat.le_of_lt (Nat.lt_of_le_of_lt (by rw [hsz1]; exact Nat.le_add_right _ _) g)), (Nat.ne_of_lt g).symm⟩
  obtain ⟨H3, hH⟩ : ∃ H3 : Hp, H3 = fun b => if b = qa then some (.lst (Ts.map V.ref)) else match (List.range Ts.length).find? (fun j => decide (Ts[j]? = some b)) with
      | some j => some (.tup [xs.getD j .non, ys.getD j .non])
      | none => H2 b := ⟨_, rfl⟩
  have h3q : H3 qa = some (.lst (Ts.map V.ref)) := by rw [hH]; simp
  have h3o : ∀ b, b ≠ qa → b ∉ Ts → H3 b = H2 b := fun b hb hm => by
    rw [hH]
    simp only [if_neg hb]
    have : (List.range Ts.length).find? (fun j => decide (Ts[j]? = some b)) = none := by
      rw [List.find?_eq_none]
      intro j _ hc
      exact hm (List.mem_of_getElem? (of_decide_eq_true hc))
    rw [this]
  have h3T : ∀ T ∈ Ts, ∃ j, Ts[j]? = some T ∧ H3 T = some (.tup [xs.getD j .non, ys.getD j .non]) := fun T hm => by
    have hne := (hTn T hm).2
    cases hf : (List.range Ts.length).find? (fun j => decide (Ts[j]? = some T)) with
    | none =>
      obtain ⟨j, hj, hjT⟩ := List.mem_iff_getElem.mp hm
      have := List.find?_eq_none.mp hf j (List.mem_range.mpr hj)
      exact absurd (decide_eq_true (by rw [List.getElem?_eq_getElem hj, hjT])) this
    | some j =>
      have hd := List.find?_some hf
      refine ⟨j, of_decide_eq_true hd, ?_⟩
      rw [hH]
      simp only [if_neg hne, hf]
  have same : Same H2 H3 := fun b o e => by
    rw [h3o b (fun z => by rw [z, hqn] at e; cases e) (fun m => by rw [(hTn b m).1] at e; cases e)]
    exact e
  have I3 : Inv X pins σ H3 { s2 with heap := h3, toks := tk } := by
    refine I2.laidAll kk same (fun b hb hn => ?_) fun b o e hn => ?_
    · rw [h3o b (fun z => by rw [z, hsz1] at hb; exact absurd hb (Nat.not_lt_of_le (Nat.le_add_right _ _))) (fun m => ?_)]
      · exact hn
      · obtain ⟨j, hj⟩ := List.mem_iff_getElem?.mp m
        obtain ⟨_, _, _, _, _, _, _, _, _, g⟩ := hTj j b hj
        exact absurd hb (Nat.not_lt_of_le (Nat.le_of_lt (Nat.lt_of_le_of_lt (by rw [hsz1]; exact Nat.le_add_right _ _) g)))
    · by_cases hb : b = qa
      · subst hb
        rw [h3q] at e
        cases e
        refine ⟨by rw [List.length_map, hT]; exact hz1, acc.toList, c, ?_, by rw [Array.toArray_toList]; exact hS3⟩
        rw [hTl]
        have : ∀ l : List Addr, Vals (l.map V.ref) (l.map Value.ref) := fun l => by
          induction l with
          | nil => exact .nil
          | cons t l ih => exact .cons rfl ih
        exact this Ts
      · by_cases hm : b ∈ Ts
        · obtain ⟨j, hj, e'⟩ := h3T b hm
          rw [e'] at e
          cases e
          obtain ⟨u, v, x, y, g1, g2, r1, r2, g3, _⟩ := hTj j b hj
          have d1 : xs.getD j .non = u := by rw [List.getD_eq_getElem?_getD, g1]; rfl
          have d2 : ys.getD j .non = v := by rw [List.getD_eq_getElem?_getD, g2]; rfl
          rw [d1, d2]
          exact ⟨by show 2 ≤ sizeLine; decide, [x, y], .cons r1 (.cons r2 .nil), ⟨_, g3, rfl, _, rfl⟩⟩
        · rw [h3o b hb hm, hn] at e
          cases e
  refine ⟨.ref qa, H3, I3, rfl, q qa Ts H3 hqn h3q hT (fun j T e => ?_) same⟩
  obtain ⟨j', hj', e'⟩ := h3T T (List.mem_of_getElem? e)
  obtain ⟨u, v, x, y, g1, g2, r1, r2, g3, _⟩ := hTj j T e
  obtain ⟨u', v', x', y', g1', g2', r1', r2', g3', _⟩ := hTj j' T hj'
  have hxy : x = x' ∧ y = y' := by
    have e3 : some _ = some _ := g3.symm.trans g3'
    have e4 := congrArg (fun o : Option Obj => o.map fun o => o.data) e3
    simp only [Option.map_some, Option.some.injEq, Data.seq.injEq] at e4
    have e5 := congrArg Array.toList e4.1
    simp only [List.cons.injEq, and_true] at e5
    exact e5
  obtain ⟨rfl, rfl⟩ := hxy
  have hu := relV_inj r1 r1'
  have hv := relV_inj r2 r2'
  subst hu hv
  refine ⟨u, v, g1, g2, ?_⟩
  rw [e', List.getD_eq_getElem?_getD, g1', List.getD_eq_getElem?_getD, g2']
  rfl
end
end L2

set_option Elab.async false
set_option linter.all false
set_option maxRecDepth 100000
namespace L2
open PySem PySem.Spec PyProof.Rows
section
variable {X : Cx}
/-- list(range(a, b)) -/
def tLstRng (ta : TA) : TE := fun σ H Q => ta σ H fun vs H1 => ∃ i j : Int, vs = [.int i, .int j] ∧ (-1000000 ≤ i ∧ i ≤ 1000000 ∧ -1000000 ≤ j ∧ j ≤ 1000000) ∧ ∀ q, H1 q = none → Q (.ref q) (upd H1 q (.lst ((List.range (j - i).toNat).map fun k : Nat => V.int (i + (k : Int)))))
theorem pe_lstRng {a b : Expr} {ta : TA} {p p2 pos pos2 : Pos} (hc : X.calm = true) (hgl : Gl X "list") (hml : X.mg "list" = none) (hgr : Gl X "range") (hmr : X.mg "range" = none) (ha : PA X [a, b] ta)
    (hs : starEach [Expr.Call (.Name "range" p2) [a, b] [] pos2] X.env = [(false, eval (.Call (.Name "range" p2) [a, b] [] pos2) X.env)] := by rfl) (hs2 : starEach [a, b] X.env = [(false, eval a X.env), (false, eval b X.env)] := by rfl) (hs3 : starEach [b] X.env = [(false, eval b X.env)] := by rfl) :
    PE X (.Call (.Name "list" p) [.Call (.Name "range" p2) [a, b] [] pos2] [] pos) (tLstRng ta) := by
  intro pins s σ H Q I h
  refine Call_ (ld_blt I hgl hml (by decide +kernel : bootBuiltins "list" = some (.type "list")) (PyProof.Rows.callWith_type1 ?_ hs rfl))
  rw [hs]
  show wpAny _ _ (spliced ((false, eval (.Call (.Name "range" p2) [a, b] [] pos2) X.env) :: [])) _ _ s
  refine Calls.spliced_cons ?_
  refine Call_ (ld_blt I hgr hmr boot_range (PyProof.Rows.callWith_type1 (thn (ha pos2 pins s σ H _ I h) fun us s1 ⟨vs, H1, I1, r1, q1⟩ => ?_) (by rw [hs2, hs3]) (by rw [hs3]; rfl)))
  obtain ⟨i, j, e, ⟨b1, b2, b3, b4⟩, q⟩ := q1
  subst e
  cases r1 with
  | cons r rr =>
    cases rr with
    | cons r' rr =>
      cases rr
      obtain ⟨t, rfl⟩ := r
      obtain ⟨t', rfl⟩ := r'
      refine call_range_2 (Calls.spliced_nil ?_)
      have hn : Builtin.Range.rangeSize i j 1 = ((j - i).toNat : Int) := by rw [rangeSize_one]; split <;> omega
      have p62 : ((2 : Int) ^ 62) = 4611686018427387904 := by decide
      have p24 : (2 : Nat) ^ 24 = 16777216 := by decide
      refine call_list_range (n := (j - i).toNat) (I1.ok.hd hc) (IsRange.new ..) (small_one (by rw [p62]; omega) (by rw [p62]; omega) (by rw [p62]; omega) (by rw [p62]; omega)) hn (by rw [p24]; omega) fun h' tk acc c' hk hS' hacc => ?_
      generalize hD : Heap.objs _ = D0 at hS'
      have hkk : ∀ b o, s1.heap.get? b = some o → h'.get? b = some o := fun b o e => hk b o (Heap.get?_push_of_some _ e)
      have hsz : s1.heap.objs.size ≤ D0.size := by rw [← hD, Heap.size_push]; exact Nat.le_succ _
      have hv : Vals ((List.range (j - i).toNat).map fun k : Nat => V.int (i + (k : Int))) acc.toList := vals_of (fun k v ⟨t, e⟩ => ⟨t, by rw [e]; congr 1; omega⟩) hacc
      refine ⟨.ref D0.size, _, I1.laid (t' := tk) hkk hsz (show ObjOk X.prog X.w _ _ _ (.lst _) from ⟨by rw [List.length_map, List.length_range]; exact Nat.le_trans (show (j - i).toNat ≤ 16000000 by omega) (by decide), acc.toList, c', hv, by rw [Array.toArray_toList]; exact hS'⟩), rfl, q _ (I1.hok.fresh hsz)⟩
end
end L2

set_option Elab.async false
set_option linter.all false
set_option maxRecDepth 100000
namespace L2
open PySem PySem.Spec PyProof.Rows
section
variable {X : Cx}
theorem KV.key {κ : Type} : ∀ {kvs : List (κ × V)} {vs : List (κ × Value)}, KV kvs vs → vs.map (·.1) = kvs.map (·.1)
  | [], [], _ => rfl
  | _ :: _, _ :: _, .cons r t => by
    simp only [List.map_cons]
    rw [KV.key t, r.1]
/-- what a dict's keys are gathered to -/
theorem collect_dk {pins : List (Addr × Obj)} {σ : St} {H : Hp} {s : Shared} {a : Addr} {kvs : List (Key × V)} {A : Around} {E : Value → Shared → Prop} {R : List Value → Shared → Prop} (I : Inv X pins σ H s) (hh : A.handled = none) (e : H a = some (.dK kvs))
    (h : ∀ (h' : Heap) (tk : Nat) (acc : List Value), (∀ b o, s.heap.get? b = some o → h'.get? b = some o) → acc.length = kvs.length → (∀ (j : Nat) v, acc[j]? = some v → ∃ p, kvs[j]? = some p ∧ RelV (kV p.1) v) → R acc { s with heap := h', toks := tk }) :
    wpAny (model X.prog X.w) A (collect (.ref a)) R E s := by
  obtain ⟨z, hd, vs, rel, dd⟩ := dk_of I.hok e
  obtain ⟨ep, hat⟩ := dd.dictAt
  have hk := KV.key rel
  have hl : vs.length = kvs.length := by rw [← List.length_map (f := (·.1)), hk, List.length_map]
  refine PySem.W.kdu_collect (PySem.W.kdl_dict (knd := mixKind X.prog X.w) (kvs := vs) (ep := ep) hd) hh hat (by rw [hl]; exact z) fun h' tk acc hkk hacc => ?_
  refine h h' tk acc.toList hkk (by rw [Array.length_toList, hacc.1, hl]) fun j v hv => ?_
  obtain ⟨k, x, hx, hi⟩ := hacc.2 j v (by rw [← Array.getElem?_toList]; exact hv)
  have hj : (kvs.map (·.1))[j]? = some k := by rw [← hk, List.getElem?_map, hx]; rfl
  rw [List.getElem?_map] at hj
  cases hp : kvs[j]? with
  | none => rw [hp] at hj; cases hj
  | some p =>
    rw [hp] at hj
    have hj : p.1 = k := by injection hj
    refine ⟨p, rfl, ?_⟩
    rw [hj]
    rcases keyIs_shape (show keyIs k v = true from hi) with ⟨i, t, rfl, rfl⟩ | ⟨y, t, rfl, rfl⟩
    · exact ⟨t, rfl⟩
    · exact ⟨t, rfl⟩
/-- sorted(d), its keys ints, or texts -/
def fSortD : List V → Hp → VK → Prop := fun xs H Q => match xs with
  | [.ref a] => (∃ (ns : List Int) (kvs : List (Key × V)), H a = some (.dK kvs) ∧ kvs.map (·.1) = ns.map Sum.inl ∧ ns.length < 64 ∧ ∀ (q : Addr) (ms : List Int), H q = none → ms.Perm ns → ms.Pairwise (· ≤ ·) → Q (.ref q) (upd H q (.lst (ms.map V.int)))) ∨
    (∃ (ss : List Str) (kvs : List (Key × V)), H a = some (.dK kvs) ∧ kvs.map (·.1) = ss.map Sum.inr ∧ ss.length < 64 ∧ ∀ (q : Addr) (ms : List Str), H q = none → ms.Perm ss → sortedS ms = true → Q (.ref q) (upd H q (.lst (ms.map V.str))))
  | _ => False
theorem sortDI {H : Hp} {Q : VK} {a : Addr} {ns : List Int} {kvs : List (Key × V)} (h1 : H a = some (.dK kvs)) (h2 : kvs.map (·.1) = ns.map Sum.inl) (h3 : ns.length < 64) (h : ∀ (q : Addr) (ms : List Int), H q = none → ms.Perm ns → ms.Pairwise (· ≤ ·) → Q (.ref q) (upd H q (.lst (ms.map V.int)))) : fSortD [.ref a] H Q := .inl ⟨ns, kvs, h1, h2, h3, h⟩
theorem vals_intsA : ∀ {vs : List Value} {ns : List Int}, IntsAre vs ns → Vals (ns.map V.int) vs
  | _, _, .nil => .nil
  | _, _, .cons n t h => .cons ⟨t, rfl⟩ (vals_intsA h)
theorem vals_strsA : ∀ {vs : List Value} {ns : List Str}, StrsAre vs ns → Vals (ns.map V.str) vs
  | _, _, .nil => .nil
  | _, _, .cons n t h => .cons ⟨t, rfl⟩ (vals_strsA h)
theorem c_sortD (hc : X.calm = true) : CallR X (.builtin "sorted") fSortD := by
  intro pins s σ H xs us Q I r h
  unfold fSortD at h
  split at h
  · rename_i a
    obtain ⟨u, rfl, ru⟩ := vals1 r
    cases ru
    refine PySem.Calls.call_function_entry kind_sorted plain_sorted entry_sorted (args_sorted1 _) ?_
    unfold Builtin.«sorted»
    refine wpAny_bind (m := checkCount "sorted" 1 1 _) (wpAny_pure ?_)
    have key : ∀ (h1 : Heap) (out : Array Value) (acc : List Value) (b : Addr) (o : Obj), h1.get? b = some o → (sortedHeap (h1.push (seqObj "list" acc.toArray 0)) h1.objs.size acc out).get? b = some o := fun h1 out acc b o eb => by
      have hlt := Heap.lt_size eb
      rw [sortedHeap_old (Nat.ne_of_lt hlt) (by rw [Heap.size_push]; exact Nat.lt_succ_of_lt hlt)]
      exact Heap.get?_push_of_some _ eb
    rcases h with ⟨ns, kvs, e, hk, h64, q⟩ | ⟨ss, kvs, e, hk, h64, q⟩
    · have hl : kvs.length = ns.length := by rw [← List.length_map (f := (·.1)), hk, List.length_map]
      refine wpAny_bind (collect_dk I (A := X.A.in1) (show X.A.in1.handled = none from I.ok.hd hc) e fun h1 tk acc hkk hal hacc => ?_)
      have hint : ∀ (j : Nat) v, acc[j]? = some v → ∃ n t, ns[j]? = some n ∧ v = .int n t := fun j v hv => by
        obtain ⟨p, hp, hr⟩ := hacc j v hv
        have hj : (ns.map (Sum.inl : Int → Key))[j]? = some p.1 := by rw [← hk, List.getElem?_map, hp]; rfl
        rw [List.getElem?_map] at hj
        cases hn : ns[j]? with
        | none => rw [hn] at hj; cases hj
        | some n =>
          rw [hn] at hj
          have hj : (Sum.inl n : Key) = p.1 := by injection hj
          rw [← hj] at hr
          obtain ⟨t, rfl⟩ := (show ∃ t, v = Value.int n t from hr)
          exact ⟨n, t, rfl, rfl⟩
      have hI : IntsAre acc ns := by
        have h0 := intsAre_map acc fun v hv => by
          obtain ⟨j, hj⟩ := List.mem_iff_getElem?.mp hv
          obtain ⟨n, t, _, ev⟩ := hint j v hj
          exact ⟨n, t, ev⟩
        have he : acc.map numOf = ns := by
          apply List.ext_getElem?
          intro j
          rw [List.getElem?_map]
          cases hv : acc[j]? with
          | none =>
            have : ns[j]? = none := by
              rw [List.getElem?_eq_none_iff] at hv ⊢
              omega
            rw [this]; rfl
          | some v =>
            obtain ⟨n, t, hn, ev⟩ := hint j v hv
            rw [hn, ev]; rfl
        rw [he] at h0; exact h0
      have hsl : acc.length < 64 := by omega
      have hszA : acc.length ≤ sizeLine := Nat.le_trans (Nat.le_of_lt hsl) (by decide)
      have hszB : acc.toArray.size ≤ sizeLine := by rw [List.size_toArray]; exact hszA
      refine wpAny_bind (wpAny_newList ?_ (by first | exact hszA | exact hszB))
      have hoL : (h1.push (seqObj "list" acc.toArray 0)).get? h1.objs.size = some (seqObj "list" acc.toArray 0) := Heap.get?_push_size _ rfl
      show wpAny _ _ _ _ _ { s with heap := h1.push (seqObj "list" acc.toArray 0), toks := tk }
      refine wpAny_bind (wpAny_holding (wpAny_call_entry slot_list_sort ⟨_, hoL, rfl⟩ entry_list_sort (list_sort_tree hoL hI hsl fun out ns' a1 a2 a3 => ⟨_, rfl, ?_⟩) (args_list_sort _)))
      refine wpAny_pure ⟨_, rfl, ?_⟩
      obtain ⟨ep, he⟩ := sortedHeap_at (out := out) hoL
      have I1 : Inv X pins σ H { s with heap := h1, toks := tk } := I.kept (t' := tk) hkk
      have hol : ns'.length = ns.length := a2.length_eq
      refine ⟨.ref h1.objs.size, _, I1.laid (t' := tk) (fun b o eb => key h1 out acc b o eb) (Nat.le_refl _) (show ObjOk X.prog X.w _ _ _ (.lst (ns'.map V.int)) from ⟨by rw [List.length_map]; exact Nat.le_trans (by omega) (show 64 ≤ sizeLine by decide), out.toList, ep, vals_intsA a1, by rw [Array.toArray_toList]; exact he⟩), rfl, q _ _ (I1.hok.fresh (Nat.le_refl _)) a2 a3⟩
    · have hl : kvs.length = ss.length := by rw [← List.length_map (f := (·.1)), hk, List.length_map]
      refine wpAny_bind (collect_dk I (A := X.A.in1) (show X.A.in1.handled = none from I.ok.hd hc) e fun h1 tk acc hkk hal hacc => ?_)
      have hint : ∀ (j : Nat) v, acc[j]? = some v → ∃ n t, ss[j]? = some n ∧ v = .str n t := fun j v hv => by
        obtain ⟨p, hp, hr⟩ := hacc j v hv
        have hj : (ss.map (Sum.inr : Str → Key))[j]? = some p.1 := by rw [← hk, List.getElem?_map, hp]; rfl
        rw [List.getElem?_map] at hj
        cases hn : ss[j]? with
        | none => rw [hn] at hj; cases hj
        | some n =>
          rw [hn] at hj
          have hj : (Sum.inr n : Key) = p.1 := by injection hj
          rw [← hj] at hr
          obtain ⟨t, rfl⟩ := (show ∃ t, v = Value.str n t from hr)
          exact ⟨n, t, rfl, rfl⟩
      have hSt : StrsAre acc ss := by
        have h0 := strsAre_map acc fun v hv => by
          obtain ⟨j, hj⟩ := List.mem_iff_getElem?.mp hv
          obtain ⟨n, t, _, ev⟩ := hint j v hj
          exact ⟨n, t, ev⟩
        have he : acc.map strOf = ss := by
          apply List.ext_getElem?
          intro j
          rw [List.getElem?_map]
          cases hv : acc[j]? with
          | none =>
            have : ss[j]? = none := by
              rw [List.getElem?_eq_none_iff] at hv ⊢
              omega
            rw [this]; rfl
          | some v =>
            obtain ⟨n, t, hn, ev⟩ := hint j v hv
            rw [hn, ev]; rfl
        rw [he] at h0; exact h0
      have hsl : acc.length < 64 := by omega
      have hszA : acc.length ≤ sizeLine := Nat.le_trans (Nat.le_of_lt hsl) (by decide)
      have hszB : acc.toArray.size ≤ sizeLine := by rw [List.size_toArray]; exact hszA
      refine wpAny_bind (wpAny_newList ?_ (by first | exact hszA | exact hszB))
      have hoL : (h1.push (seqObj "list" acc.toArray 0)).get? h1.objs.size = some (seqObj "list" acc.toArray 0) := Heap.get?_push_size _ rfl
      show wpAny _ _ _ _ _ { s with heap := h1.push (seqObj "list" acc.toArray 0), toks := tk }
      refine wpAny_bind (wpAny_holding (wpAny_call_entry slot_list_sort ⟨_, hoL, rfl⟩ entry_list_sort (list_sort_treeK strKind_oneLt hoL hSt.keysOf (fun v₁ v₂ rest e => keyKind_strs (by rw [← e]; exact hSt)) hsl fun st' hp hs => ⟨_, rfl, ?_⟩) (args_list_sort _)))
      refine wpAny_pure ⟨_, rfl, ?_⟩
      obtain ⟨ss', a1, a2, a3⟩ := sorted_out_str hSt hp hs
      generalize (arrOf st').map (·.2) = out at a1
      obtain ⟨ep, he⟩ := sortedHeap_at (out := out) hoL
      have I1 : Inv X pins σ H { s with heap := h1, toks := tk } := I.kept (t' := tk) hkk
      have hol : ss'.length = ss.length := a2.length_eq
      refine ⟨.ref h1.objs.size, _, I1.laid (t' := tk) (fun b o eb => key h1 out acc b o eb) (Nat.le_refl _) (show ObjOk X.prog X.w _ _ _ (.lst (ss'.map V.str)) from ⟨by rw [List.length_map]; exact Nat.le_trans (by omega) (show 64 ≤ sizeLine by decide), out.toList, ep, vals_strsA a1, by rw [Array.toArray_toList]; exact he⟩), rfl, q _ _ (I1.hok.fresh (Nat.le_refl _)) a2 a3⟩
  · exact h.elim
end
end L2

set_option Elab.async false
set_option linter.all false
set_option maxRecDepth 100000
namespace L2
open PySem PySem.Spec PyProof.Rows
/-! ### a table by numbers, its values tuples -/
abbrev nk (n : Nat) : Key := Sum.inl (n : Int)
theorem nk_inj {a b : Nat} (h : nk a = nk b) : a = b := by
  have : (a : Int) = b := Sum.inl.inj h
  omega
structure Tb {α : Type} (dat : α → List V) (H : Hp) (kvs : List (Key × V)) (f : Nat → Option α) : Prop where
  keys : ∃ ns : List Nat, kvs.map (·.1) = ns.map nk ∧ ns.Nodup ∧ ∀ n, n ∈ ns ↔ (f n).isSome = true
  at_ : ∀ n a, f n = some a → ∃ t, valV kvs (nk n) = some (.ref t) ∧ H t = some (.tup (dat a))
theorem Tb.none {α : Type} {dat : α → List V} {H : Hp} : Tb dat H [] (fun _ => none) := ⟨⟨[], rfl, List.nodup_nil, fun n => by simp⟩, fun n a h => by cases h⟩
theorem Tb.tk {α : Type} {dat : α → List V} {H H' : Hp} {kvs : List (Key × V)} {f : Nat → Option α} (k : Tk H H') (x : Tb dat H kvs f) : Tb dat H' kvs f := ⟨x.keys, fun n a h => let ⟨t, e, e2⟩ := x.at_ n a h; ⟨t, e, k _ _ e2⟩⟩
open Classical in
theorem putK_keys (kvs : List (Key × V)) (k : Key) (v : V) : (putK kvs k v).map (·.1) = if k ∈ kvs.map (·.1) then kvs.map (·.1) else kvs.map (·.1) ++ [k] := by
  unfold putK
  by_cases h : k ∈ kvs.map (·.1)
  · have ha : (kvs.any fun kv => decide (kv.1 = k)) = true := by
      obtain ⟨p, hp, e⟩ := List.mem_map.mp h
      exact List.any_eq_true.mpr ⟨p, hp, decide_eq_true e⟩
    rw [if_pos h, if_pos ha, List.map_map]
    apply List.map_congr_left
    intro p _
    show (if p.1 = k then _ else _ : Key × V).1 = p.1
    split
    · first | rfl | (rename_i q; exact q.symm)
    · rfl
  · have ha : ¬ (kvs.any fun kv => decide (kv.1 = k)) = true := fun q => by
      obtain ⟨p, hp, e⟩ := List.any_eq_true.mp q
      exact h (List.mem_map.mpr ⟨p, hp, of_decide_eq_true e⟩)
    rw [if_neg h, if_neg ha, List.map_append]; rfl
theorem Tb.put {α : Type} {dat : α → List V} {H : Hp} {kvs : List (Key × V)} {f : Nat → Option α} (x : Tb dat H kvs f) {n : Nat} {t : Addr} {a : α} (ht : H t = some (.tup (dat a))) :
    Tb dat H (putK kvs (nk n) (.ref t)) (fun m => if m = n then some a else f m) := by
  obtain ⟨⟨ns, h1, h2, h3⟩, h4⟩ := x
  have hm : nk n ∈ kvs.map (·.1) ↔ n ∈ ns := by
    rw [h1]
    constructor
    · intro h
      obtain ⟨m, hm, e⟩ := List.mem_map.mp h
      rw [← nk_inj e]; exact hm
    · intro h
      exact List.mem_map.mpr ⟨n, h, rfl⟩
  refine ⟨?_, fun m a' h => ?_⟩
  · rw [putK_keys]
    by_cases hn : n ∈ ns
    · rw [if_pos (hm.mpr hn)]
      refine ⟨ns, h1, h2, fun m => ?_⟩
      by_cases e : m = n
      · subst e; simp [hn]
      · simp only [if_neg e]; exact h3 m
    · rw [if_neg (fun q => hn (hm.mp q))]
      refine ⟨ns ++ [n], by rw [h1, List.map_append]; rfl, ?_, fun m => ?_⟩
      · rw [List.nodup_append]
        refine ⟨h2, by simp, fun a ha b hb e => ?_⟩
        have hb : b = n := by simpa using hb
        subst hb; subst e; exact hn ha
      · by_cases e : m = n
        · subst e; simp
        · simp only [if_neg e, List.mem_append, List.mem_singleton, e, or_false]; exact h3 m
  · rw [valV_put]
    by_cases e : m = n
    · subst e
      simp only [if_pos] at h
      rw [if_pos rfl]
      injection h with h
      subst h
      exact ⟨t, rfl, ht⟩
    · simp only [if_neg e] at h
      rw [if_neg (fun q => e (nk_inj q))]
      exact h4 m a' h
theorem valV_drop (kvs : List (Key × V)) (k j : Key) (h : j ≠ k) : valV (dropK kvs k) j = valV kvs j := by
  unfold valV dropK
  rw [List.find?_filter]
  congr 1
  congr 1
  funext p
  by_cases e : p.1 = j
  · simp [e, h]
  · simp [e]
theorem Tb.drop {α : Type} {dat : α → List V} {H : Hp} {kvs : List (Key × V)} {f : Nat → Option α} (x : Tb dat H kvs f) (n : Nat) : Tb dat H (dropK kvs (nk n)) (fun m => if m = n then Option.none else f m) := by
  obtain ⟨⟨ns, h1, h2, h3⟩, h4⟩ := x
  refine ⟨⟨ns.filter (fun m => decide (m ≠ n)), ?_, h2.filter _, fun m => ?_⟩, fun m a h => ?_⟩
  · have h5 : (dropK kvs (nk n)).map (·.1) = (kvs.map (·.1)).filter (fun k => decide (k ≠ nk n)) := by
      unfold dropK; rw [List.filter_map]; rfl
    rw [h5, h1, List.filter_map]
    congr 1
    apply List.filter_congr
    intro m _
    by_cases e : m = n
    · subst e; simp
    · have : nk m ≠ nk n := fun q => e (nk_inj q)
      simp [e, this]
  · rw [List.mem_filter]
    by_cases e : m = n
    · subst e; simp
    · simp only [if_neg e, ne_eq, e, not_false_eq_true, decide_true, and_true]; exact h3 m
  · by_cases e : m = n
    · subst e; simp at h
    · simp only [if_neg e] at h
      rw [valV_drop _ _ _ (fun q => e (nk_inj q))]
      exact h4 m a h
/-- numbers below n, each once -/
theorem nodup_lt : ∀ (n : Nat) (l : List Nat), l.Nodup → (∀ x ∈ l, x < n) → l.length ≤ n
  | 0, l, _, h => by
    cases l with
    | nil => exact Nat.le_refl _
    | cons x l => exact absurd (h x List.mem_cons_self) (Nat.not_lt_zero _)
  | n + 1, l, hd, h => by
    have h1 := nodup_lt n (l.filter (fun x => decide (x ≠ n))) (hd.filter _) fun x hx => by
      obtain ⟨h2, h3⟩ := List.mem_filter.mp hx
      have := h x h2
      have : x ≠ n := by simpa using h3
      omega
    have h2 : l.length ≤ (l.filter (fun x => decide (x ≠ n))).length + 1 := by
      clear h h1
      induction l with
      | nil => exact Nat.zero_le _
      | cons x l ih =>
        rw [List.nodup_cons] at hd
        by_cases e : x = n
        · subst e
          have : l.filter (fun y => decide (y ≠ x)) = l := by
            rw [List.filter_eq_self]
            intro y hy
            have : y ≠ x := fun q => hd.1 (q ▸ hy)
            simpa using this
          rw [List.filter_cons, if_neg (by simp), this]
          exact Nat.le_refl _
        · have := ih hd.2
          rw [List.filter_cons, if_pos (by simpa using e)]
          simp only [List.length_cons]
          omega
    omega
/-- two sorted rows of the same numbers are one -/
theorem sorted_one : ∀ {a b : List Int}, a.Perm b → a.Pairwise (· ≤ ·) → b.Pairwise (· ≤ ·) → a = b
  | [], b, p, _, _ => p.nil_eq
  | x :: a, [], p, _, _ => absurd p.symm.nil_eq (by simp)
  | x :: a, y :: b, p, ha, hb => by
    rw [List.pairwise_cons] at ha hb
    have h1 : y ≤ x := by
      rcases List.mem_cons.mp (p.mem_iff.mp (List.mem_cons_self (a := x) (l := a))) with h | h
      · omega
      · exact hb.1 x h
    have h2 : x ≤ y := by
      rcases List.mem_cons.mp (p.mem_iff.mpr (List.mem_cons_self (a := y) (l := b))) with h | h
      · omega
      · exact ha.1 y h
    have : x = y := by omega
    subst this
    rw [sorted_one (List.Perm.cons_inv p) ha.2 hb.2]
end L2

set_option Elab.async false
set_option linter.all false
set_option maxRecDepth 100000
namespace L2
open PySem PySem.Spec PyProof.Rows
/-! ### max, min of a tuple of ints -/
def ints? : List V → Option (List Int)
  | [] => some []
  | .int i :: r => (ints? r).map (i :: ·)
  | _ => none
theorem ints?_of : ∀ {xs : List V} {ns : List Int}, ints? xs = some ns → xs = ns.map V.int
  | [], ns, h => by cases h; rfl
  | x :: r, ns, h => by
    cases x with
    | int i =>
      simp only [ints?, Option.map_eq_some_iff] at h
      obtain ⟨l, hl, rfl⟩ := h
      rw [ints?_of hl]; rfl
    | _ => simp [ints?] at h
theorem ints?_map : ∀ ns : List Int, ints? (ns.map V.int) = some ns
  | [] => rfl
  | n :: ns => by simp only [List.map_cons, ints?, ints?_map ns]; rfl
def fBest (le : Int → Int → Prop) : List V → Hp → VK → Prop := fun xs H Q => match xs with
  | [.ref p] => (match tupR H p with
    | some ys => (match ints? ys with
      | some ns => ns ≠ [] ∧ ∀ m, m ∈ ns → (∀ n ∈ ns, le n m) → Q (.int m) H
      | none => False)
    | none => False)
  | _ => False
theorem i_best {le : Int → Int → Prop} {H : Hp} {Q : VK} {p : Addr} {ns : List Int} (h : H p = some (.tup (ns.map V.int))) (h0 : ns ≠ []) (q : ∀ m, m ∈ ns → (∀ n ∈ ns, le n m) → Q (.int m) H) : fBest le [.ref p] H Q := by
  have e : tupR H p = some (ns.map V.int) := by unfold tupR; rw [h]
  show match tupR H p with | some ys => (match ints? ys with | some ns => _ | none => False) | none => False
  rw [e]
  show match ints? (ns.map V.int) with | some ns => _ | none => False
  rw [ints?_map]
  exact ⟨h0, q⟩
section
variable {X : Cx}
theorem c_max1 (hc : X.calm = true) : CallR X (.builtin "max") (fBest (· ≤ ·)) := by
  intro pins s σ H xs us Q I r h
  unfold fBest at h
  split at h
  · rename_i p
    split at h
    · rename_i ys e
      split at h
      · rename_i ns en
        obtain ⟨h0, q⟩ := h
        obtain ⟨u, rfl, ru⟩ := vals1 r
        cases ru
        obtain ⟨its, rv, pl, hz⟩ := I.tuple (tupR_sq e)
        rw [ints?_of en] at rv
        have hlen := rv.length
        rw [List.length_map] at hlen
        have hlt : p < s.heap.objs.size := by obtain ⟨o, ho, _⟩ := pl; exact Heap.lt_size ho
        have hval : ∀ (i : Nat) (v : Value), its.toArray[i]? = some v → ∃ t, v = .int (ns.getD i 0) t := fun i v hv => by
          have hv' : its[i]? = some v := by simpa using hv
          have hil : i < its.length := (List.getElem?_eq_some_iff.mp hv').1
          obtain ⟨w', hw, t, rfl⟩ := rv.get (i := i) (x := V.int (ns.getD i 0)) (by rw [List.getElem?_map]; simp [List.getD_eq_getElem?_getD, show i < ns.length by omega])
          rw [hv'] at hw
          cases hw
          exact ⟨t, rfl⟩
        have hpos : 0 < ns.length := List.length_pos_iff.mpr h0
        refine call_max_walk (wpAny_pyIter_tuple pl ?_)
        refine ⟨s.heap.objs.size, _, _, _, _, _, _, rfl, Walks.tuple (A := X.A.in1) (show X.A.in1.handled = none from I.ok.hd hc) s.heap.objs.size p (Nat.ne_of_lt hlt) its.toArray, ⟨⟨_, Heap.get?_push_size _ rfl, rfl, rfl⟩, ?_⟩, ?_, ?_, CmpOf.ints_gt (fun i => ns.getD i 0) hval, fun v h' tk hv k => ?_⟩
        · obtain ⟨o, ho, q⟩ := pl
          exact ⟨o, Heap.get?_push_of_some _ ho, q⟩
        · intro b hb
          have hs : (s.heap.push { cls := .type "tuple_iterator", data := .fields #[.ref p, .int 0 0] }).objs.size = s.heap.objs.size + 1 := Heap.size_push ..
          show b < (s.heap.push _).objs.size
          rw [hs]
          rcases List.mem_cons.mp hb with z | z
          · rw [z]; exact Nat.lt_succ_self _
          · have z' : b = p := by simpa using z
            rw [z']; exact Nat.lt_succ_of_lt hlt
        · rw [List.size_toArray]; omega
        · obtain ⟨t, rfl⟩ := hval _ _ hv
          rw [List.size_toArray]
          obtain ⟨b1, b2⟩ := argBest_gt (fun i => ns.getD i 0) (its.length - 1)
          have I1 : Inv X pins σ H { s with heap := s.heap.push { cls := .type "tuple_iterator", data := .fields #[.ref p, .int 0 0] }, toks := s.toks } := I.kept fun b u q => Heap.get?_push_of_some _ q
          have f1 := I.fpOk (H' := H) (b := s.heap.objs.size) (Nat.le_refl _) (I.hok.fresh (Nat.le_refl _))
          refine ⟨.int _, H, I1.turned (t' := tk) (it := s.heap.objs.size) (fun b o hb q => k b o (by simpa using hb) q) f1.1 f1.2.1 f1.2.2.2.1 f1.2.2.2.2.1 f1.2.2.2.2.2, ⟨_, rfl⟩, q _ ?_ fun n hn => ?_⟩
          · rw [List.getD_eq_getElem?_getD, List.getElem?_eq_getElem (show argBest _ _ < ns.length by omega)]
            exact List.getElem_mem _
          · obtain ⟨j, hj, rfl⟩ := List.getElem_of_mem hn
            have := b2 j (by omega)
            rw [List.getD_eq_getElem?_getD (i := j), List.getElem?_eq_getElem hj] at this
            exact this
      · exact h.elim
    · exact h.elim
  · exact h.elim
end
end L2
namespace L2
open PySem
end L2

set_option Elab.async false
set_option linter.all false
set_option maxRecDepth 100000
namespace L2
open PySem PySem.Spec PyProof.Rows
/-! ### list.insert, at a place within -/
def fInsert : V → List V → Hp → VK → Prop := fun x vs H Q => match x, vs with
  | .ref l, [.int i, y] => (match H l with | some (.lst xs) => 0 ≤ i ∧ i ≤ xs.length ∧ xs.length < 1000000 ∧ Q .non (upd H l (.lst (xs.take i.toNat ++ y :: xs.drop i.toNat))) | _ => False)
  | _, _ => False
section
variable {X : Cx}
theorem Vals.take' {xs : List V} {us : List Value} (h : Vals xs us) : ∀ n, Vals (xs.take n) (us.take n) := by
  induction h with
  | nil => intro n; simp; exact .nil
  | cons r rs ih =>
    intro n
    cases n with
    | zero => simp; exact .nil
    | succ n => simp only [List.take_succ_cons]; exact .cons r (ih n)
theorem Vals.drop' {xs : List V} {us : List Value} (h : Vals xs us) : ∀ n, Vals (xs.drop n) (us.drop n) := by
  induction h with
  | nil => intro n; simp; exact .nil
  | cons r rs ih =>
    intro n
    cases n with
    | zero => simp only [List.drop_zero]; exact .cons r rs
    | succ n => simp only [List.drop_succ_cons]; exact ih n
theorem m_insert2 : MtR X "list.insert" fInsert := fun pins s σ H x vs v us Q I rx rs h => by
  unfold fInsert at h
  split at h
  · rename_i l i y
    split at h
    · rename_i xs hH
      obtain ⟨h0, h1, hz, q⟩ := h
      cases rx
      cases rs with
      | cons r1 rs =>
        cases rs with
        | cons r2 rs =>
          cases rs
          obtain ⟨t, rfl⟩ := r1
          rename_i u
          obtain ⟨z, its, n, r, hl, e⟩ := I.lstM hH
          have hlen := r.length
          have hfit : Builtin.List.listFitsIndex i = true := by
            unfold Builtin.List.listFitsIndex
            have e : ((2 : Int) ^ 63) = 9223372036854775808 := by decide
            simp only [e, Bool.and_eq_true, decide_eq_true_eq]
            omega
          have hbig : 1000000 ≤ sizeLine := by decide
          have hsz : its.toArray.size ≤ sizeLine := by
            rw [List.size_toArray]
            omega
          refine call_meets F.slot_list_insert ⟨_, e, rfl⟩ F.entry_list_insert (F.args_list_insert_3 _ _ _) (PySem.AutoSeq1.list_insert_list_int_val_1 l its.toArray n i t u (by simp [hfit]) hsz) ⟨e, ?_⟩
          refine ⟨.non, _, I.lset (its' := its.take i.toNat ++ u :: its.drop i.toNat) hH e ?_ ((Vals.take' r _).append (.cons r2 (Vals.drop' r _))) ?_, rfl, q⟩
          · apply Array.toList_inj.mp
            have hk : (if i < 0 then (i + ((its.toArray.size : Nat) : Int)).toNat else min i.toNat its.toArray.size) = i.toNat := by
              rw [if_neg (by omega), List.size_toArray]
              omega
            show ((its.toArray.extract 0 (if i < 0 then (i + ((its.toArray.size : Nat) : Int)).toNat else min i.toNat its.toArray.size)).push u ++ its.toArray.extract (if i < 0 then (i + ((its.toArray.size : Nat) : Int)).toNat else min i.toNat its.toArray.size)).toList = _
            rw [hk]
            simp
            exact List.take_of_length_le (by rw [List.length_drop]; exact Nat.le_refl _)
          · have : (xs.take i.toNat ++ y :: xs.drop i.toNat).length = xs.length + 1 := by
              rw [List.length_append, List.length_cons, List.length_take, List.length_drop]; omega
            omega
    · exact h.elim
  · exact h.elim
end
end L2

set_option Elab.async false
set_option linter.all false
set_option maxRecDepth 100000
namespace L2
open PySem PySem.Spec PyProof.Rows
/-! ### data that == and != may look at, piece by piece -/
def Lay (n : Nat) (d : Dt) : Prop := PyData.canLay0 (toP d) = true ∧ PyData.depth (toP d) ≤ n
theorem Lay.ok {n : Nat} {d : Dt} (h : Lay n d) (hn : n ≤ 64) : okD d := by
  unfold okD SeqAt.shaped
  rw [h.1, decide_eq_true (Nat.le_trans h.2 hn)]; rfl
theorem lay_all {n : Nat} : ∀ {ds : List Dt}, (∀ d ∈ ds, Lay n d) → PyData.canLayAll0 (toPs ds) = true ∧ PyData.depthAll (toPs ds) ≤ n
  | [], _ => ⟨rfl, Nat.zero_le _⟩
  | d :: ds, h => by
    have h1 := h d List.mem_cons_self
    have h2 := lay_all (ds := ds) fun e he => h e (List.mem_cons_of_mem _ he)
    simp only [toPs, PyData.canLayAll0, PyData.depthAll, h1.1, h2.1, Bool.and_self, true_and]
    have := h1.2
    have := h2.2
    omega
theorem Lay.lst {n : Nat} {ds : List Dt} (h : ∀ d ∈ ds, Lay n d) : Lay (n + 1) (.lst ds) := by
  have := lay_all h
  unfold Lay
  simp only [toP, PyData.canLay0, PyData.depth, this.1, true_and]
  omega
theorem Lay.tup {n : Nat} {ds : List Dt} (h : ∀ d ∈ ds, Lay n d) : Lay (n + 1) (.tup ds) := by
  have := lay_all h
  unfold Lay
  simp only [toP, PyData.canLay0, PyData.depth, this.1, true_and]
  omega
theorem Lay.int {i : Int} : Lay 0 (.int i) := ⟨rfl, Nat.le_refl _⟩
theorem Lay.ints {n : List Int} : ∀ d ∈ n.map Dt.int, Lay 0 d := fun d hd => by
  obtain ⟨x, _, rfl⟩ := List.mem_map.mp hd
  exact Lay.int
end L2

set_option Elab.async false
set_option linter.all false
set_option maxRecDepth 100000
namespace L2
open PySem PySem.Spec PyProof.Rows
/-! ### own plain classes: methods and making, known by their promises -/
structure Dm (P : Program) (w : World) (K : PySem.W.Frag) (mg : Str → Option Value) (base : Heap) (C : Addr) (m : Str) (k : Nat) (ps : List Str) (sp : Sp) : Prop where
  ex : ∃ (f : Addr) (fd : FuncData), Meth K C m f ∧ Binds K fd ps [] ∧ FnOk P w K mg base CX0 k f fd ps sp
structure Dk (P : Program) (w : World) (K : PySem.W.Frag) (mg : Str → Option Value) (base : Heap) (C : Addr) (k : Nat) (ps : List Str) (sp : Sp) : Prop where
  ex : ∃ (f : Addr) (fd : FuncData), Mk K C f ∧ Binds K fd ps [] ∧ FnOk P w K mg base CX0 k f fd ps sp
section
variable {X : Cx} {k : Nat} {C : Addr} {ps : List Str} {sp : Sp} {x m : Str} {p pos apos : Pos} {e o : Expr} {es : List Expr} {ta : TE} {t : TA}
theorem pe_methD {pl : Sem Bool} (he : PE X o ta) (c : Cls X.K C) (D : Dm X.prog X.w X.K X.mg X.base C m k ps sp) (hr : Room k X.A) (ha : PA X (e :: es) t)
    (hst : starEach (e :: es) X.env = (false, eval e X.env) :: starEach es X.env := by rfl) (hpl : (backTo pos (starEach es X.env)).any (·.1) = false := by rfl)
    (ht : eval (.Call (.Attribute o m apos) (e :: es) [] pos) X.env = (do
      let ov ← eval o X.env
      standAt apos.atName
      let (f, first) ← holding [ov] (getMethod ov m pl)
      callWith pos f first (backTo pos (starEach (e :: es) X.env)) (backToKw pos (keywordEach [] X.env))) := by rfl) :
    PE X (.Call (.Attribute o m apos) (e :: es) [] pos) (tMeth C m sp [] E0 ta t) := by
  obtain ⟨f, fd, h1, h2, h3⟩ := D.ex
  exact pe_meth he c h1 h3 hr h2 .nil pass0 ha hst hpl ht
theorem pe_methD0 {pl : Sem Bool} (he : PE X o ta) (c : Cls X.K C) (D : Dm X.prog X.w X.K X.mg X.base C m k ps sp) (hr : Room k X.A)
    (ht : eval (.Call (.Attribute o m apos) [] [] pos) X.env = (do
      let ov ← eval o X.env
      standAt apos.atName
      let (f, first) ← holding [ov] (getMethod ov m pl)
      callWith pos f first (backTo pos (starEach [] X.env)) (backToKw pos (keywordEach [] X.env))) := by rfl) :
    PE X (.Call (.Attribute o m apos) [] [] pos) (tMeth C m sp [] E0 ta tNil) := by
  obtain ⟨f, fd, h1, h2, h3⟩ := D.ex
  exact pe_meth0 he c h1 h3 hr h2 .nil pass0 ht
theorem pe_makeD (D : Dk X.prog X.w X.K X.mg X.base C k ps sp) (hr : Room (k + 1) X.A) (hg : Gl X x) (hm : X.mg x = some (.ref C)) (ha : PA X (e :: es) t)
    (hdb : (x == ("__debug__" : Str)) = false := by decide) (he : starEach (e :: es) X.env = (false, eval e X.env) :: starEach es X.env := by rfl) (hpl : (backTo pos (starEach es X.env)).any (·.1) = false := by rfl) :
    PE X (.Call (.Name x p) (e :: es) [] pos) (tMake C sp [] E0 t) := by
  obtain ⟨f, fd, h1, h2, h3⟩ := D.ex
  exact pe_make h1 h3 hr hg hm h2 .nil pass0 ha hdb he hpl
end
section
variable {σ : St} {H : Hp} {Q : VK} {D : Ends}
theorem i_meth {C : Addr} {m : Str} {sp : Sp} {E : XK} {ta : TE} {t : TA} (h : ta σ H fun x H1 => ∃ a dx fs, x = .ref a ∧ H1 a = some (.ins C dx fs) ∧ fs.lookup m = none ∧ t σ H1 fun vs H2 => sp (x :: (vs ++ [])) H2 Q E) : tMeth C m sp [] E ta t σ H Q := h
theorem i_self {a C dx : Addr} {fs : List (Str × V)} {m : Str} {R : Prop} (h1 : H a = some (.ins C dx fs)) (h2 : fs.lookup m = none) (h : R) : ∃ a' dx' fs', V.ref a = .ref a' ∧ H a' = some (.ins C dx' fs') ∧ fs'.lookup m = none ∧ R := ⟨a, dx, fs, rfl, h1, h2, h⟩
theorem i_make {C : Addr} {sp : Sp} {E : XK} {t : TA} (h : t σ H fun vs H1 => ∀ x dx, H1 x = none → H1 dx = none → dx ≠ x → sp (.ref x :: (vs ++ [])) (upd (upd H1 dx (.own x)) x (.ins C dx [])) (fun v H2 => v = .non ∧ Q (.ref x) H2) E) : tMake C sp [] E t σ H Q := h
theorem i_fldE {K : PySem.W.Frag} {ta : TE} {f : Str} (h : ta σ H fun x H1 => ∃ a C dx fs v, x = .ref a ∧ H1 a = some (.ins C dx fs) ∧ Cls K C ∧ NoAttr K C f ∧ fs.lookup f = some v ∧ Q v H1) : tFld K ta f σ H Q := h
theorem i_fldS {K : PySem.W.Frag} {ta tv : TE} {f : Str} (h : tv σ H fun y H1 => ta σ H1 fun x H2 => ∃ a C dx fs, x = .ref a ∧ H2 a = some (.ins C dx fs) ∧ Cls K C ∧ NoAttr K C f ∧ fs.length < 1000 ∧ D.nx σ (upd H2 a (.ins C dx (putF f y fs)))) : sFld K ta tv f D σ H := h
theorem i_fld1 {K : PySem.W.Frag} {a C dx : Addr} {fs : List (Str × V)} {f : Str} {v : V} {R : V → Prop} (h1 : H a = some (.ins C dx fs)) (c : Cls K C) (n : NoAttr K C f) (l : fs.lookup f = some v) (h : R v) : ∃ a' C' dx' fs' v', V.ref a = .ref a' ∧ H a' = some (.ins C' dx' fs') ∧ Cls K C' ∧ NoAttr K C' f ∧ fs'.lookup f = some v' ∧ R v' := ⟨a, C, dx, fs, v, rfl, h1, c, n, l, h⟩
theorem i_fld2 {K : PySem.W.Frag} {a C dx : Addr} {fs : List (Str × V)} {f : Str} {y : V} {R : Hp → Prop} (h1 : H a = some (.ins C dx fs)) (c : Cls K C) (n : NoAttr K C f) (l : fs.length < 1000) (h : R (upd H a (.ins C dx (putF f y fs)))) :
    ∃ a' C' dx' fs', V.ref a = .ref a' ∧ H a' = some (.ins C' dx' fs') ∧ Cls K C' ∧ NoAttr K C' f ∧ fs'.length < 1000 ∧ R (upd H a' (.ins C' dx' (putF f y fs'))) := ⟨a, C, dx, fs, rfl, h1, c, n, l, h⟩
end
end L2

set_option Elab.async false
set_option linter.all false
set_option maxRecDepth 100000
namespace L2
open PySem PySem.Spec PyProof.Rows
/-! ### data stay when only an instance is stored to -/
/-- every list, tuple and table stays -/
def Dat (H H' : Hp) : Prop := (∀ b xs, H b = some (.lst xs) → H' b = some (.lst xs)) ∧ (∀ b xs, H b = some (.tup xs) → H' b = some (.tup xs)) ∧ ∀ b kvs, H b = some (.dK kvs) → H' b = some (.dK kvs)
theorem Same.dat {H H' : Hp} (h : Same H H') : Dat H H' := ⟨fun b xs e => h b _ e, fun b xs e => h b _ e, fun b xs e => h b _ e⟩
theorem Dat.trans {H H1 H2 : Hp} (a : Dat H H1) (b : Dat H1 H2) : Dat H H2 := ⟨fun c o e => b.1 c o (a.1 c o e), fun c o e => b.2.1 c o (a.2.1 c o e), fun c o e => b.2.2 c o (a.2.2 c o e)⟩
theorem Dat.ins {H : Hp} {p C dx : Addr} {fs : List (Str × V)} (hp : H p = some (.ins C dx fs)) (o : HO) : Dat H (upd H p o) := by
  refine ⟨fun b xs e => ?_, fun b xs e => ?_, fun b xs e => ?_⟩ <;>
  · have hb : b ≠ p := fun z => by rw [z, hp] at e; cases e
    rw [upd_ne hb]; exact e
mutual
theorem Is.dat {H H' : Hp} (h : Dat H H') : ∀ {d : Dt} {v : V}, Is H v d → Is H' v d
  | .non, _, k => by simp only [Is] at k ⊢; exact k
  | .bl _, _, k => by simp only [Is] at k ⊢; exact k
  | .int _, _, k => by simp only [Is] at k ⊢; exact k
  | .str _, _, k => by simp only [Is] at k ⊢; exact k
  | .tup ds, _, k => by
    simp only [Is] at k ⊢
    obtain ⟨a, xs, e, h1, h2⟩ := k
    exact ⟨a, xs, e, h.2.1 _ _ h1, IsL.dat h h2⟩
  | .lst ds, _, k => by
    simp only [Is] at k ⊢
    obtain ⟨a, xs, e, h1, h2⟩ := k
    exact ⟨a, xs, e, h.1 _ _ h1, IsL.dat h h2⟩
theorem IsL.dat {H H' : Hp} (h : Dat H H') : ∀ {ds : List Dt} {xs : List V}, IsL H xs ds → IsL H' xs ds
  | [], [], _ => by simp only [IsL]
  | d :: ds, x :: xs, k => by
    simp only [IsL] at k ⊢
    exact ⟨Is.dat h k.1, IsL.dat h k.2⟩
  | [], _ :: _, k => by simp only [IsL] at k
  | _ :: _, [], k => by simp only [IsL] at k
end
theorem NT.dat {H H' : Hp} (h : Dat H H') {kvs : List (Key × V)} {gs : List Pat} (k : NT H kvs gs) : NT H' kvs gs := NT.tups h.2.1 k
/-- all but p stays -/
theorem off_new {H H1 H2 : Hp} {p : Addr} (h : ∀ b o, b ≠ p → H b = some o → H1 b = some o) (s : Same H1 H2) : ∀ b o, b ≠ p → H b = some o → H2 b = some o := fun b o hb e => s _ _ (h b o hb e)
theorem off_upd {H H1 : Hp} {p : Addr} {x : HO} (h : ∀ b o, b ≠ p → H b = some o → H1 b = some o) : ∀ b o, b ≠ p → H b = some o → (upd H1 p x) b = some o := fun b o hb e => by rw [upd_ne hb]; exact h b o hb e
theorem i_din {ty td : TE} {σ : St} {H : Hp} {Q : VK} (h : ty σ H fun y H1 => td σ H1 fun x H2 => ∃ a o, x = .ref a ∧ DGet H2 a y o ∧ Q (.bl o.isSome) H2) : tDIn ty td σ H Q := h
theorem i_tB {t : TE} {σ : St} {H : Hp} {Q : Bool → Hp → Prop} (h : t σ H fun x H1 => ∃ c, x = .bl c ∧ Q c H1) : tB t σ H Q := h
theorem i_insL {l : Addr} {i : Int} {y : V} {xs : List V} {H : Hp} {Q : VK} (h1 : H l = some (.lst xs)) (h2 : 0 ≤ i ∧ i ≤ xs.length ∧ xs.length < 1000000) (h : Q .non (upd H l (.lst (xs.take i.toNat ++ y :: xs.drop i.toNat)))) : fInsert (.ref l) [.int i, y] H Q := by
  show (match H l with | some (.lst xs) => 0 ≤ i ∧ i ≤ xs.length ∧ xs.length < 1000000 ∧ Q .non (upd H l (.lst (xs.take i.toNat ++ y :: xs.drop i.toNat))) | _ => False)
  rw [h1]; exact ⟨h2.1, h2.2.1, h2.2.2, h⟩
/-! ### a view -/
def bV : Option Nat → V
  | none => .non
  | some n => .int (n : Int)
def bD : Option Nat → Dt
  | none => .non
  | some n => .int (n : Int)
structure View where
  t : List Nat
  b : Option Nat
  i : Int
  j : Int
def viewD (v : View) : Dt := .tup [.str (S v.t), bD v.b, .int v.i, .int v.j]
def pairD (p : Int × Int) : Dt := .tup [.int p.1, .int p.2]
theorem isB {H : Hp} {b : Option Nat} : Is H (bV b) (bD b) := by cases b <;> simp only [bV, bD, Is]
theorem isView_mk {H : Hp} {a : Addr} {v : View} (h : H a = some (.tup [.str (S v.t), bV v.b, .int v.i, .int v.j])) : Is H (.ref a) (viewD v) := by
  simp only [Is, viewD]
  exact ⟨a, _, rfl, h, by simp only [L2.IsL, Is]; exact ⟨trivial, isB, trivial, trivial, trivial⟩⟩
theorem isPair_mk {H : Hp} {a : Addr} {p : Int × Int} (h : H a = some (.tup [.int p.1, .int p.2])) : Is H (.ref a) (pairD p) := by
  simp only [Is, pairD]
  exact ⟨a, _, rfl, h, by simp only [L2.IsL, Is, and_self]⟩
theorem isB_of {H : Hp} {v : V} {b : Option Nat} (h : Is H v (bD b)) : v = bV b := by cases b <;> (simp only [bD, Is] at h; exact h)
theorem isView {H : Hp} {v : V} {x : View} (h : Is H v (viewD x)) : ∃ a, v = .ref a ∧ H a = some (.tup [.str (S x.t), bV x.b, .int x.i, .int x.j]) := by
  simp only [Is, viewD] at h
  obtain ⟨a, ys, rfl, ha, hy⟩ := h
  match ys, hy with
  | [y1, y2, y3, y4], hy =>
    simp only [L2.IsL] at hy
    obtain ⟨h1, h2, h3, h4, _⟩ := hy
    have h2 := isB_of h2
    simp only [Is] at h1 h3 h4
    subst h1 h2 h3 h4
    exact ⟨a, rfl, ha⟩
  | [], hy => simp only [L2.IsL] at hy
  | [_], hy => simp only [L2.IsL] at hy; exact hy.2.elim
  | [_, _], hy => simp only [L2.IsL] at hy; exact hy.2.2.elim
  | [_, _, _], hy => simp only [L2.IsL] at hy; exact hy.2.2.2.elim
  | _ :: _ :: _ :: _ :: _ :: _, hy => simp only [L2.IsL] at hy; exact hy.2.2.2.2.elim
theorem isPair {H : Hp} {v : V} {p : Int × Int} (h : Is H v (pairD p)) : ∃ a, v = .ref a ∧ H a = some (.tup [.int p.1, .int p.2]) := by
  simp only [Is, pairD] at h
  obtain ⟨a, ys, rfl, ha, hy⟩ := h
  match ys, hy with
  | [y1, y2], hy =>
    simp only [L2.IsL, Is] at hy
    obtain ⟨h1, h2, _⟩ := hy
    subst h1 h2
    exact ⟨a, rfl, ha⟩
  | [], hy => simp only [L2.IsL] at hy
  | [_], hy => simp only [L2.IsL] at hy; exact hy.2.elim
  | _ :: _ :: _ :: _, hy => simp only [L2.IsL] at hy; exact hy.2.2.elim
end L2

set_option Elab.async false
set_option linter.all false
set_option maxRecDepth 100000
namespace L2
open PySem PySem.Spec PyProof.Rows
section
variable {X : Cx}
end
end L2

set_option Elab.async false
set_option linter.all false
set_option maxRecDepth 100000
set_option maxHeartbeats 4000000
namespace K31
open PySem L2
local macro_rules | `(tactic| walk_at "sc") => `(tactic| first | assumption | omega | exact rfl | decide | exact szn (by omega) | (simp only [List.length_cons, List.length_nil, List.length_map, S_length] <;> omega) | trivial)
local macro_rules | `(tactic| walk_at "sq") => `(tactic| first | assumption | exact seqR_upd | exact seqR_updT | (exact seqR_lst (by assumption)) | (exact seqR_tup (by assumption)))
local macro_rules | `(tactic| walk_at "sl") => `(tactic| first | assumption | exact SqL.of upd_same | exact SqL.of (by assumption))
local macro_rules | `(tactic| walk_at "st") => `(tactic| first | assumption | exact SqT.of upd_same | exact SqT.of (by assumption))
local macro_rules | `(tactic| walk_at "lq") => `(tactic| first | assumption | exact lstR_upd | (exact lstR_of (by assumption)))
local macro_rules | `(tactic| walk_at "at") => `(tactic| first | exact atI_0 _ _ | exact atI_1 _ _ _ | exact atI_2 _ _ _ _ | exact atI_3 _ _ _ _ _ | assumption)
local macro_rules | `(tactic| walk_at "mu") => `(tactic| first | (exact CMul.l (by omega) (by omega)) | (exact CMul.r (by omega) (by omega)) | (exact CMul.l (by decide) (by decide)) | (exact CMul.r (by decide) (by decide)))
local macro_rules | `(tactic| walk_at "sd") => `(tactic| first | omega | (simp only [List.length_append, List.length_cons, List.length_nil, List.length_map, frame_length] <;> omega))
local macro_rules | `(tactic| walk_at "g1") => `(tactic| first
  | (with_reducible refine i_seq ?_) | (with_reducible refine i_ifs ?_) | (with_reducible refine i_asg ?_) | (with_reducible refine i_op ?_) | ((with_reducible refine' i_var ?k1 ?_); (case k1 => exact rfl)) | (with_reducible refine i_c ?_)
  | (with_reducible refine i_ret ?_) | (with_reducible refine i_next ?_) | (with_reducible refine i_drop ?_) | (with_reducible refine i_name ?_) | (with_reducible refine i_gsub ?_) | (with_reducible refine i_test ?_) | (with_reducible refine i_bl ?_)
  | (with_reducible refine i_fI0 ?_) | (with_reducible refine i_addI ?_) | ((with_reducible refine' i_fI ?k1 ?_); (case k1 => walk_at "sc")) | ((with_reducible refine' i_mulI ?k1 ?_); (case k1 => walk_at "mu"))
  | ((with_reducible refine' i_ixR ?k1 ?k2 ?_); (case k1 => walk_at "sq"); (case k2 => walk_at "at")) | (with_reducible refine i_cons ?_) | (with_reducible refine i_nil ?_) | (with_reducible refine i_cb ?_) | (with_reducible refine i_call ?_)
  | (with_reducible refine i_and ?_) | (with_reducible refine i_or ?_) | (with_reducible refine i_not ?_) | (with_reducible refine i_andV ?_) | (with_reducible refine i_orV ?_) | (with_reducible refine i_notV ?_) | (with_reducible refine i_ifE ?_) | (with_reducible refine i_chain ?_)
  | (with_reducible refine i_un ?_) | (with_reducible refine i_neg ?_) | (with_reducible refine i_sl ?_) | (with_reducible refine i_nopart ?_) | (with_reducible refine i_part ?_) | (with_reducible refine i_exI ?_)
  | ((with_reducible refine' i_eq ?k1 ?_); (case k1 => exact rfl)) | ((with_reducible refine' i_ne ?k1 ?_); (case k1 => exact rfl)) | (with_reducible refine i_is ?_) | (with_reducible refine i_isnot ?_) | (with_reducible refine i_inS ?_)
  | ((with_reducible refine' i_lenC ?k1 ?_); (case k1 => walk_at "sd")) | ((with_reducible refine' i_lenS ?k1 ?_); (case k1 => walk_at "sc")) | ((with_reducible refine' i_lenR ?k1 ?_); (case k1 => walk_at "sq")) | (with_reducible refine i_1I ?_) | (with_reducible refine i_2I ?_) | (with_reducible refine i_intB ?_) | (with_reducible refine i_intI ?_)
  | ((with_reducible refine' i_addC ?k1 ?_); (case k1 => walk_at "sd")) | ((with_reducible refine' i_slC ?k1 ?_); (case k1 => walk_at "sd")) | ((with_reducible refine' i_addS ?k1 ?_); (case k1 => walk_at "sc")) | ((with_reducible refine' i_slS ?k1 ?_); (case k1 => walk_at "sc")) | (with_reducible refine i_truB ?_) | (with_reducible refine i_truI ?_) | (with_reducible refine i_SS ?_) | (with_reducible refine i_SSI ?_)
  | ((with_reducible refine' i_appL ?k1 ?k2 ?_); (case k1 => first | assumption | exact upd_same); (case k2 => walk_at "sc")) | (with_reducible refine i_rng1 ?_) | (with_reducible refine i_rng2 ?_) | ((with_reducible refine' i_r1 ?k1 ?_); (case k1 => omega)) | (with_reducible refine i_comp ?_) | (with_reducible refine i_true ?_)
  | (with_reducible refine i_data ?_) | (with_reducible refine i_bm ?_) | (with_reducible refine i_bm0 ?_) | (with_reducible refine i_tyS ?_) | ((with_reducible refine' i_tyL ?k1 ?_); (case k1 => walk_at "sl")) | (with_reducible refine i_for ?_) | (with_reducible refine i_any ?_) | (with_reducible refine i_anyS ?_) | ((with_reducible refine' i_anyL ?k1 ?_); (case k1 => walk_at "sl")) | ((with_reducible refine' i_anyT ?k1 ?_); (case k1 => walk_at "st")) | (with_reducible refine i_enumS ?_) | (with_reducible refine i_enum ?_) | (with_reducible refine i_enS ?_)
  | ((with_reducible refine' i_lenK ?k1 ?_); (case k1 => assumption)) | ((with_reducible refine' i_ixK ?k1 ?k2 ?_); (case k1 => assumption); (case k2 => walk_at "at"))
  | (with_reducible refine i_lst ?_) | (with_reducible refine i_tup ?_) | (with_reducible refine i_retN ?_) | ((with_reducible refine' iteBT ?k1 ?_); (case k1 => first | exact rfl | decide)) | ((with_reducible refine' iteBF ?k1 ?_); (case k1 => first | exact rfl | decide)) | ((with_reducible refine' iteDF ?k1 ?_); (case k1 => intro z; cases z)) | ((with_reducible refine' iteDT ?k1 ?_); (case k1 => exact rfl)) | ((with_reducible refine' i_sz ?k1 ?_); (case k1 => exact szc rfl)) | ((with_reducible refine' i_isi ?k1 ?k2 ?_); (case k1 => first | exact rfl | (exact tyN_tup (by assumption)) | (exact tyN_lst (by assumption))); (case k2 => exact rfl)) | ((with_reducible refine' i_r2 ?k1 ?_); (case k1 => omega)) | ((with_reducible show Ends.nx _ _ _); dsimp only) | ((with_reducible show Ends.rt _ _ _); dsimp only) | ((with_reducible refine' i_set ?k1 ?k2 ?_); (case k1 => first | assumption | exact upd_same); (case k2 => first | exact rfl | (exact ixN_of (by omega) (by omega)))))
local macro_rules | `(tactic| walk_at "go") => `(tactic| repeat (walk_at "g1"))
seal L2.PSs L2.PS L2.PE L2.PT L2.PA L2.PI L2.PG L2.PTs L2.PGs L2.PO L2.PW
def top (i : Nat) : Stmt := PySem.Challenge.pw_breakwords_k31_settled_pairs_are_values.main.body.getD i (.Pass ⟨0, 0, 0, 0⟩)
structure Txt (mg : Str → Option Value) (tk : Nat → Tok) : Prop where
  z_len : mg "len" = none
  z_abs : mg "abs" = none
  z_all : mg "all" = none
  z_any : mg "any" = none
  z_range : mg "range" = none
  z_enumerate : mg "enumerate" = none
  z_isinstance : mg "isinstance" = none
  z_tuple : mg "tuple" = none
  z_list : mg "list" = none
  z_bool : mg "bool" = none
  z_str : mg "str" = none
  z_int : mg "int" = none
  z_min : mg "min" = none
  z_max : mg "max" = none
  z_zip : mg "zip" = none
  z_sorted : mg "sorted" = none
abbrev s_beginnings : Stmt := top 1
theorem sc_beginnings : FnScope ["patterns", "met", "pattern", "signs", "end"] ["patterns"] (defScope s_beginnings) := ⟨rfl, rfl, rfl, by decide +kernel, rfl, by decide +kernel, by decide +kernel⟩
theorem i_disp {trs : List (TE × TE)} {σ : St} {H : Hp} {Q : VK} (h : ∀ p, H p = none → tPairs trs σ (upd H p (.dK [])) fun ps H2 => H2 p = some (.dK []) ∧ ∃ kvs : List (Key × V), ps = kvs.map (fun kv => (kV kv.1, kv.2)) ∧ kvs.length ≤ 15 ∧ Q (.ref p) (upd H2 p (.dK (mergeK [] kvs)))) : tDisp trs σ H Q := h
theorem i_dput {td ty tv : TE} {D : Ends} {σ : St} {H : Hp} (h : tv σ H fun v H1 => td σ H1 fun x H2 => ty σ H2 fun y H3 => ∃ a H4, x = .ref a ∧ DPut H3 a y v H4 ∧ D.nx σ H4) : sDPut td ty tv D σ H := h
/-- every beginning, as a table -/
def spBegs : Sp := fun vs H Q _ => ∃ (v : V) (xs : List Pat), vs = [v] ∧ Is H v (patsD xs) ∧ (∀ x ∈ xs, x.1.length ≤ 100) ∧ xs.length ≤ 1000 ∧ ∀ (a : Addr) (H' : Hp), H a = none → H' a = some (.dK (bT (begs xs))) → Same H H' → Q (.ref a) H'
section
variable {P : Program} {w : World} {K : PySem.W.Frag} {mg : Str → Option Value} {base : Heap} {f : Addr} {fd : FuncData} {tk : Nat → Tok}
theorem ok_beginnings (T : Txt mg tk) (F : Fun K "beginnings" "beginnings" s_beginnings f fd) : FnOk P w K mg base CX0 1 f fd ["patterns"] spBegs := by
  refine F.ok sc_beginnings (fun vs H Q E h => ?_) (fun cdv A outer s H vs Q E hr h => ?_)
  · obtain ⟨v, xs, rfl, _⟩ := h
    rfl
  obtain ⟨v, xs, rfl, hv, hxs, hxl, q⟩ := h
  have nd := sc_beginnings.nd
  obtain ⟨b, ys, rfl, hb, hys⟩ := isPats hv
  have hyl : ys.length = xs.length := by have := hys.length; simpa using this
  refine ⟨_, (pss_cons (ps_set (i := 1) nd rfl (Or.inl rfl) (pe_disp (pps_cons pe_str pe_bl pps_nil) rfl rfl (by simp) (by decide)))
    (pss_cons (ps_for PassesOwn.never rfl (pi_any (K := K) (pv 0)) (pg_name (i := 2) nd rfl (Or.inl rfl))
     (pss_cons (ps_set (i := 3) nd rfl (Or.inl rfl) (pe_ix (ix_any (K := K)) (pv 2) pe_int (fun _ _ => rfl)))
    (pss_one (ps_for PassesOwn.never rfl (pi_range2 rfl T.z_range (pa_cons pe_int (pa_cons (pe_op o_add (pe_callB (c_len (K := K)) rfl T.z_len (by decide +kernel) (pa_cons (pv 3) pa_nil)) pe_int) pa_nil))) (pg_name (i := 4) nd rfl (Or.inl rfl))
     (pss_one (ps_dput (hu_of hr) (pv 1) (pe_slice (sl_any (K := K)) (pv 3) po_none (po_some (pv 4))) pe_bl rfl))))))
    (pss_one (ps_ret (pv 1))))), ?_⟩
  rw [show L2.start ["patterns", "met", "pattern", "signs", "end"] [.ref b] = [some (.ref b), none, none, none, none] from rfl]
  rw [t_empty]
  walk_at "go"
  refine i_disp fun a ha => ?_
  simp only [tPairs]
  walk_at "go"
  refine ⟨upd_same, [(Sum.inr (S []), .bl true)], rfl, by decide, ?_⟩
  rw [upd_upd]
  have hm : mergeK [] [((Sum.inr (S []) : Key), V.bl true)] = bT [[]] := rfl
  rw [hm]
  have s1 := same_new ha (.dK (bT [[]]))
  have e1 : (upd H a (.dK (bT [[]]))) a = some (.dK (bT [[]])) := upd_same
  have hb1 := s1 _ _ hb
  have hys1 := IsL.same s1 hys
  have put : ∀ {H2 : Hp} {ns : List (List Nat)} {z : List Nat} {kvs}, H2 a = some (.dK kvs) → Same H H2 → Same H (upd H2 a (.dK (bT ns))) := fun {H2 ns z kvs} e s c o ec => by
    have hc : c ≠ a := fun q => by rw [q, ha] at ec; cases ec
    rw [upd_ne hc]; exact s c o ec
  walk_at "go"
  refine for_list (K := K) (xs := ys) (fun i σ H' => ∃ (v2 v3 v4 : Option V), σ = [some (.ref b), some (.ref a), v2, v3, v4] ∧ H' a = some (.dK (bT (begA [[]] (xs.take i)))) ∧ Same H H')
    ⟨none, none, none, rfl, e1, s1⟩ (fun i σ H' _ ⟨_, _, _, _, _, s⟩ => SqL.of (s _ _ hb)) ?_ ?_
  · rintro i y σ H2 hy ⟨v2, v3, v4, rfl, e2, s2⟩
    have hi : i < xs.length := by
      have := (List.getElem?_eq_some_iff.mp hy).1
      omega
    obtain ⟨y', d, hy', hd1, hI⟩ := IsL.get (IsL.same s2 hys) (show i < (xs.map patD).length by simpa using hi)
    rw [hy] at hy'
    cases hy'
    rw [List.getElem?_map, List.getElem?_eq_getElem hi] at hd1
    cases hd1
    obtain ⟨a2, t2, rfl, ea2, et2⟩ := isPat hI
    have hxi := hxs xs[i] (List.getElem_mem hi)
    have hbl := len_begA (c := 100) (xs.take i) [[]] fun x hx => hxs x (List.mem_of_mem_take hx)
    have htl : (xs.take i).length ≤ 1000 := by rw [List.length_take]; omega
    have hm2 : (xs.take i).length * 100 ≤ 1000 * 100 := Nat.mul_le_mul_right _ htl
    walk_at "go"
    refine for_range (fun j σ H' => ∃ (v4 : Option V), σ = [some (.ref b), some (.ref a), some (.ref a2), some (.str (S xs[i].1)), v4] ∧ H' a = some (.dK (bT (begS (begA [[]] (xs.take i)) xs[i].1 j))) ∧ Same H H') ⟨_, rfl, e2, s2⟩ ?_ ?_
    · rintro j σ H3 hj ⟨v4', rfl, e3, s3⟩
      have hj : j < xs[i].1.length := by omega
      refine i_dput ?_
      walk_at "go"
      have hcut : cutA xs[i].1 none (some (1 + (j : Int))) = xs[i].1.take (j + 1) := by
        have := cut_plain xs[i].1 0 (j + 1) (by omega) (by omega)
        rw [show (1 + (j : Int)) = ((j + 1 : Nat) : Int) by omega]
        have e0 : cutA xs[i].1 none (some ((j + 1 : Nat) : Int)) = cutA xs[i].1 (some ((0 : Nat) : Int)) (some ((j + 1 : Nat) : Int)) := by
          unfold cutA
          simp [sx]
        rw [e0, this, List.drop_zero, Nat.sub_zero]
      rw [hcut]
      have hbs := len_begS (begA [[]] (xs.take i)) xs[i].1 j
      refine ⟨a, _, rfl, DPut.k (k := Sum.inr (S (xs[i].1.take (j + 1)))) e3 ?_, ?_⟩
      · have hle : (bT (begS (begA [[]] (xs.take i)) xs[i].1 j)).length ≤ 200000 := by
          unfold bT
          rw [List.length_map]
          simp only [List.length_cons, List.length_nil] at hbl
          omega
        exact Nat.lt_of_le_of_lt hle (by decide)
      · walk_at "go"
        rw [bT_put, ← begS_succ]
        exact ⟨_, rfl, upd_same, put (z := []) e3 s3⟩
    · rintro σ H3 ⟨v4', rfl, e3, s3⟩
      have hz : (((xs[i].1.length : Nat) : Int) + 1 - 1).toNat = xs[i].1.length := by omega
      refine ⟨_, _, _, rfl, ?_, s3⟩
      rw [e3, List.take_succ, List.getElem?_eq_getElem hi]
      show some (HO.dK (bT _)) = some (HO.dK (bT (begA [[]] (xs.take i ++ [xs[i]]))))
      rw [begA_snoc]
      congr 4
  · rintro σ H2 ⟨v2, v3, v4, rfl, e2, s2⟩
    rw [hyl, List.take_length] at e2
    walk_at "go"
    exact q a H2 ha e2 s2
end
abbrev s_told_at_end : Stmt := top 4
theorem sc_told_at_end : FnScope ["numbers_by_signs", "text", "back", "told", "length", "numbers"] ["numbers_by_signs", "text", "back"] (defScope s_told_at_end) := ⟨rfl, rfl, rfl, by decide +kernel, rfl, by decide +kernel, by decide +kernel⟩
theorem i_dget1 {td ty : TE} {σ : St} {H : Hp} {Q : VK} (h : td σ H fun x H1 => ∃ a, x = .ref a ∧ IsD H1 a ∧ ty σ H1 fun y H2 => ∃ o, DGet H2 a y o ∧ Q (o.getD .non) H2) : tDGet1 td ty σ H Q := h
def spTAE : Sp := fun vs H Q _ => ∃ (d : Addr) (kvs : List (Key × V)) (gs : List Pat) (x : List Nat) (back : Nat), vs = [.ref d, .str (S x), .int (back : Int)] ∧ H d = some (.dK kvs) ∧ NT H kvs gs ∧ (∀ g ∈ gs, g.2.length = g.1.length + 1) ∧ x.length ≤ 1000 ∧ back ≤ 1000 ∧ Q (.int (tAE gs x back (x.length + 1 - back))) H
section
variable {P : Program} {w : World} {K : PySem.W.Frag} {mg : Str → Option Value} {base : Heap} {f : Addr} {fd : FuncData} {tk : Nat → Tok}
theorem ok_told_at_end (T : Txt mg tk) (F : Fun K "told_at_end" "told_at_end" s_told_at_end f fd) : FnOk P w K mg base CX0 1 f fd ["numbers_by_signs", "text", "back"] spTAE := by
  refine F.ok sc_told_at_end (fun vs H Q E h => ?_) (fun cdv A outer s H vs Q E hr h => ?_)
  · obtain ⟨d, kvs, gs, x, back, rfl, _⟩ := h
    rfl
  obtain ⟨d, kvs, gs, x, back, rfl, hd, hN, hg, hx, hbk, q⟩ := h
  have nd := sc_told_at_end.nd
  refine ⟨_, (pss_cons (ps_set (i := 3) nd rfl (Or.inl rfl) pe_int)
    (pss_cons (ps_for PassesOwn.never rfl (pi_range2 rfl T.z_range (pa_cons (pv 2) (pa_cons (pe_op o_add (pe_callB (c_len (K := K)) rfl T.z_len (by decide +kernel) (pa_cons (pv 1) pa_nil)) pe_int) pa_nil))) (pg_name (i := 4) nd rfl (Or.inl rfl))
     (pss_cons (ps_set (i := 5) nd rfl (Or.inl rfl) (pe_dget1 (hu_of hr) (pv 0) (pe_slice (sl_any (K := K)) (pv 1) (po_some (pe_op o_sub (pe_callB (c_len (K := K)) rfl T.z_len (by decide +kernel) (pa_cons (pv 1) pa_nil)) (pv 4))) po_none) ⟨rfl, rfl, rfl, rfl⟩))
    (pss_one (ps_if (pt_cmpR o_isnot (pv 5) pe_non (nomark _))
     (pss_one (ps_set (i := 3) nd rfl (Or.inl rfl) (pe_callB (c_max rfl) rfl T.z_max (by decide +kernel) (pa_cons (pv 3) (pa_cons (pe_ix (ix_any (K := K)) (pv 5) (pe_op o_sub (pv 4) (pv 2)) (fun _ _ => rfl)) pa_nil)))))
     pss_nil))))
    (pss_one (ps_ret (pv 3))))), ?_⟩
  rw [show L2.start ["numbers_by_signs", "text", "back", "told", "length", "numbers"] [.ref d, .str (S x), .int (back : Int)] = [some (.ref d), some (.str (S x)), some (.int (back : Int)), none, none, none] from rfl]
  walk_at "go"
  refine for_range (fun j σ H' => ∃ (v4 v5 : Option V), H' = H ∧ σ = [some (.ref d), some (.str (S x)), some (.int (back : Int)), some (.int (tAE gs x back j)), v4, v5]) ⟨none, none, rfl, rfl⟩ ?_ ?_
  · rintro j σ H' hj ⟨v4, v5, rfl, rfl⟩
    have hj : back + j ≤ x.length := by omega
    walk_at "go"
    refine i_dget1 ?_
    walk_at "go"
    refine ⟨d, rfl, .inl ⟨kvs, .inl hd⟩, ?_⟩
    walk_at "go"
    have hcut : cutA x (some ((x.length : Int) - ((back : Int) + (j : Int)))) none = x.drop (x.length - (back + j)) := by
      rw [show ((x.length : Int) - ((back : Int) + (j : Int))) = ((x.length - (back + j) : Nat) : Int) by omega]
      exact cut_from x _ (by omega)
    rw [hcut]
    refine ⟨_, DGet.k (k := Sum.inr (S (x.drop (x.length - (back + j))))) hd, ?_⟩
    have hsuc := tAE_succ gs x back j
    rcases hN.val (z := x.drop (x.length - (back + j))) with ⟨h1, h2⟩ | ⟨g, t, h1, hgm, hgz, h2, h3⟩
    · rw [h2]
      rw [h1] at hsuc
      walk_at "go"
      exact ⟨_, _, rfl, by rw [hsuc]; rfl⟩
    · rw [h2]
      rw [h1] at hsuc
      have hgl := hg g hgm
      rw [hgz] at hgl
      have hdl : (x.drop (x.length - (back + j))).length = back + j := by rw [List.length_drop]; omega
      rw [hdl] at hgl
      have hjl : j < g.2.length := by omega
      walk_at "go"
      refine i_ixR (v := .int g.2[j]) (seqR_tup h3) (atI_of (by omega) (by rw [show ((back : Int) + (j : Int) - (back : Int)).toNat = j by omega, List.getElem?_map, List.getElem?_eq_getElem hjl]; rfl)) ?_
      walk_at "go"
      refine ⟨some (.int ((back : Int) + (j : Int))), some (.ref t), rfl, ?_⟩
      rw [hsuc]
      have eg : g.2.getD j 0 = g.2[j] := by rw [List.getD_eq_getElem?_getD, List.getElem?_eq_getElem hjl]; rfl
      simp only [eg]
      rfl
  · rintro σ H' ⟨v4, v5, rfl, rfl⟩
    walk_at "go"
    have hz : ((x.length : Int) + 1 - (back : Int)).toNat = x.length + 1 - back := by omega
    rw [hz]
    exact q
end
abbrev s_greatest_numbers : Stmt := top 2
theorem sc_greatest_numbers : FnScope ["patterns", "greatest", "pattern", "signs", "earlier"] ["patterns"] (defScope s_greatest_numbers) := ⟨rfl, rfl, rfl, by decide +kernel, rfl, by decide +kernel, by decide +kernel⟩
theorem i_dget2 {td ty tx : TE} {σ : St} {H : Hp} {Q : VK} (h : td σ H fun x H1 => ∃ a, x = .ref a ∧ IsD H1 a ∧ ty σ H1 fun y H2 => tx σ H2 fun z H3 => ∃ o, DGet H3 a y o ∧ Q (o.getD z) H3) : tDGet2 td ty tx σ H Q := h
theorem i_dnewK {σ : St} {H : Hp} {Q : VK} (h : ∀ p, H p = none → Q (.ref p) (upd H p (.dK []))) : tDNewK σ H Q := h
theorem i_zipT {σ : St} {H : Hp} {R : It → Hp → Prop} {ta tb : TE} (h : ta σ H fun x H1 => tb σ H1 fun y H2 => zpItT R x y H2) : iZipT ta tb σ H R := h
/-- the greatest numbers by signs, as a table -/
def spGrt : Sp := fun vs H Q _ => ∃ (v : V) (xs : List Pat), vs = [v] ∧ Is H v (patsD xs) ∧ (∀ x ∈ xs, x.1.length ≤ 100 ∧ x.2.length = x.1.length + 1) ∧ xs.length ≤ 1000 ∧ ∀ (a : Addr) (kvs : List (Key × V)) (H' : Hp), H a = none → H' a = some (.dK kvs) → NT H' kvs (grt xs) → Same H H' → Q (.ref a) H'
theorem NT.length {H : Hp} : ∀ {kvs : List (Key × V)} {gs : List Pat}, NT H kvs gs → kvs.length = gs.length
  | [], [], _ => rfl
  | [], _ :: _, h => h.elim
  | _ :: _, [], h => h.elim
  | kv :: kvs, g :: gs, h => by rw [List.length_cons, List.length_cons, NT.length h.2.2]
theorem i_zpT {R : It → Hp → Prop} {H : Hp} {b a : Addr} {xs ys : List V} (h1 : H b = some (.tup xs)) (h2 : H a = some (.tup ys)) (h : R (Izp xs ys fun H => H b = some (.tup xs) ∧ H a = some (.tup ys)) H) : zpItT R (.ref b) (.ref a) H := ⟨xs, ys, h1, h2, h⟩
theorem best_mx {a b m : Int} (h1 : m ∈ [a, b]) (h2 : ∀ n ∈ [a, b], n ≤ m) : m = mx a b := by
  have q1 := h2 a (by simp)
  have q2 := h2 b (by simp)
  simp at h1
  unfold mx
  split <;> rcases h1 with h | h <;> omega
section
variable {P : Program} {w : World} {K : PySem.W.Frag} {mg : Str → Option Value} {base : Heap} {f : Addr} {fd : FuncData} {tk : Nat → Tok}
theorem ok_greatest_numbers (T : Txt mg tk) (F : Fun K "greatest_numbers" "greatest_numbers" s_greatest_numbers f fd) : FnOk P w K mg base CX0 1 f fd ["patterns"] spGrt := by
  refine F.ok sc_greatest_numbers (fun vs H Q E h => ?_) (fun cdv A outer s H vs Q E hr h => ?_)
  · obtain ⟨v, xs, rfl, _⟩ := h
    rfl
  obtain ⟨v, xs, rfl, hv, hxs, hxl, q⟩ := h
  have nd := sc_greatest_numbers.nd
  obtain ⟨b, ys, rfl, hb, hys⟩ := isPats hv
  have hyl : ys.length = xs.length := by have := hys.length; simpa using this
  refine ⟨_, (pss_cons (ps_set (i := 1) nd rfl (Or.inl rfl) pe_dnewK)
    (pss_cons (ps_for PassesOwn.never rfl (pi_any (K := K) (pv 0)) (pg_name (i := 2) nd rfl (Or.inl rfl))
     (pss_cons (ps_set (i := 3) nd rfl (Or.inl rfl) (pe_ix (ix_any (K := K)) (pv 2) pe_int (fun _ _ => rfl)))
    (pss_cons (ps_set (i := 4) nd rfl (Or.inl rfl) (pe_dget2 (hu_of hr) (pv 1) (pv 3) (pe_ix (ix_any (K := K)) (pv 2) pe_int (fun _ _ => rfl)) ⟨rfl, rfl, rfl, rfl⟩))
    (pss_one (ps_dput (hu_of hr) (pv 1) (pv 3) (pe_callTy c_tuple rfl T.z_tuple (by decide +kernel) (pa_cons (pe_comp ["both"] [none] rfl (by kernel_rfl) rfl (pi_zipT rfl T.z_zip (pv 4) (pe_ix (ix_any (K := K)) (pv 2) pe_int (fun _ _ => rfl))) (fun _ _ _ _ => (pg_name (i := 0) (show (["both"] : List Str).Nodup by decide +kernel) rfl (Or.inl rfl) (Or.inr rfl))) (fun _ _ _ _ => pts_nil) (fun _ _ _ _ => (pe_callB (c_max1 rfl) rfl T.z_max (by decide +kernel) (pa_cons (pv 0) pa_nil)))) pa_nil)) rfl)))))
    (pss_one (ps_ret (pv 1))))), ?_⟩
  rw [show L2.start ["patterns", "greatest", "pattern", "signs", "earlier"] [.ref b] = [some (.ref b), none, none, none, none] from rfl]
  walk_at "go"
  refine i_dnewK fun a ha => ?_
  have s1 := same_new ha (.dK [])
  walk_at "go"
  refine i_anyL (SqL.of (s1 _ _ hb)) ?_
  refine for_list (K := K) (xs := ys) (fun i σ H' => ∃ (v2 v3 v4 : Option V) (kvs : List (Key × V)), σ = [some (.ref b), some (.ref a), v2, v3, v4] ∧ H' a = some (.dK kvs) ∧ NT H' kvs (grt (xs.take i)) ∧ kvs.length ≤ i ∧ Same H H')
    ⟨none, none, none, [], rfl, upd_same, trivial, Nat.le_refl _, s1⟩ (fun i σ H' _ ⟨_, _, _, _, _, _, _, _, s⟩ => SqL.of (s _ _ hb)) ?_ ?_
  · rintro i y σ H2 hy ⟨v2, v3, v4, kvs, rfl, e2, hN, hkl, s2⟩
    have hi : i < xs.length := by
      have := (List.getElem?_eq_some_iff.mp hy).1
      omega
    obtain ⟨y', d, hy', hd1, hI⟩ := IsL.get (IsL.same s2 hys) (show i < (xs.map patD).length by simpa using hi)
    rw [hy] at hy'
    cases hy'
    rw [List.getElem?_map, List.getElem?_eq_getElem hi] at hd1
    cases hd1
    obtain ⟨a2, t2, rfl, ea2, et2⟩ := isPat hI
    obtain ⟨hx1, hx2⟩ := hxs xs[i] (List.getElem_mem hi)
    walk_at "go"
    refine i_dget2 ?_
    walk_at "go"
    refine ⟨a, rfl, .inl ⟨kvs, .inl e2⟩, ?_⟩
    walk_at "go"
    have hgl := grt_ok (xs := xs.take i) (gs := []) (fun g hg => nomatch hg) fun x hx => (hxs x (List.mem_of_mem_take hx)).2
    obtain ⟨te, es, hte, hes, heq, hel⟩ : ∃ te es, (valV kvs (Sum.inr (S xs[i].1))).getD (.ref t2) = .ref te ∧ H2 te = some (.tup (es.map V.int)) ∧ es = ((lookP (grt (xs.take i)) xs[i].1).map (·.2)).getD xs[i].2 ∧ es.length = xs[i].2.length := by
      rcases hN.val (z := xs[i].1) with ⟨q1, q2⟩ | ⟨g, t, q1, hgm, hgz, q2, q3⟩
      · exact ⟨t2, xs[i].2, by rw [q2]; rfl, et2, by rw [q1]; rfl, rfl⟩
      · refine ⟨t, g.2, by rw [q2]; rfl, q3, by rw [q1]; rfl, ?_⟩
        rw [hgl g hgm, hgz, hx2]
    refine ⟨_, DGet.k (k := Sum.inr (S xs[i].1)) e2, ?_⟩
    rw [hte]
    walk_at "go"
    refine i_dput ?_
    walk_at "go"
    refine i_zipT ?_
    walk_at "go"
    refine i_zpT hes et2 ?_
    intro r hr0
    have ra : a ≠ r := ne_of_none e2 hr0
    refine comp_zip xs[i].2.length (by rw [List.length_map, List.length_map]; omega) (fun j acc σ H' => ∃ v1, σ = [v1] ∧ acc = ((zipMx es xs[i].2).take j).map V.int ∧ Same H2 H' ∧ H' r = some (.lst acc))
      (fun j acc σ H' _ ⟨_, _, _, s3, _⟩ => ⟨s3 _ _ hes, s3 _ _ et2⟩) ⟨none, rfl, rfl, same_new hr0 _, upd_same⟩ (fun j acc σ H' ⟨_, _, e, _, e3⟩ => ⟨e3, by rw [e, List.length_map, List.length_take]; omega⟩) (szn (by omega)) ?_ ?_
    · rintro j u v acc σ H3 T2 hu hv' ⟨v1, rfl, rfl, s3, e3⟩ hT
      have hj : j < xs[i].2.length := by
        have := (List.getElem?_eq_some_iff.mp hv').1
        simpa using this
      have hj2 : j < es.length := by omega
      rw [List.getElem?_map, List.getElem?_eq_getElem hj2] at hu
      cases hu
      rw [List.getElem?_map, List.getElem?_eq_getElem hj] at hv'
      cases hv'
      have s4 := same_new hT (.tup [.int es[j], .int xs[i].2[j]])
      have e4 := s4 _ _ e3
      walk_at "go"
      refine i_best (ns := [es[j], xs[i].2[j]]) upd_same (by simp) fun m hm1 hm2 => ?_
      rw [best_mx hm1 hm2]
      refine ⟨e4, _, rfl, ?_, fun c o e => ?_, upd_same⟩
      · rw [zipMx_take hj2 hj, List.map_append]; rfl
      · have hc : c ≠ r := fun z => by rw [z, hr0] at e; cases e
        rw [upd_ne hc]; exact s4 _ _ (s3 c o e)
    · rintro acc σ H3 ⟨v1, rfl, rfl, s3, e3⟩
      rw [← hel, ← zipMx_len hel, List.take_length] at e3
      walk_at "go"
      refine i_tupleR (seqR_lst e3) fun t H4 ht k4 => ?_
      walk_at "go"
      have s4 : Same H2 H4 := fun c o e => k4 c o (s3 c o e)
      have e4 := s4 _ _ e2
      have hN4 := (hN.same s4).put (s := xs[i].1) ht
      refine ⟨a, _, rfl, DPut.k (k := Sum.inr (S xs[i].1)) e4 (Nat.lt_of_le_of_lt (show kvs.length ≤ 1000 by omega) (by decide)), ?_⟩
      refine ⟨_, _, _, _, rfl, upd_same, ?_, ?_, fun c o e => ?_⟩
      · rw [List.take_succ, List.getElem?_eq_getElem hi]
        show NT _ _ (grt (xs.take i ++ [xs[i]]))
        rw [grt_snoc]
        have hg : grtS (grt (xs.take i)) xs[i] = putG (grt (xs.take i)) xs[i].1 (zipMx es xs[i].2) := by unfold grtS; rw [← heq]
        rw [hg]
        exact hN4.tups fun b' zs e => by
          have hb' : b' ≠ a := fun z => by rw [z, e4] at e; cases e
          rw [upd_ne hb']; exact e
      · have := length_putK kvs (Sum.inr (S xs[i].1) : Key) (V.ref t)
        omega
      · have hc : c ≠ a := fun z => by rw [z, ha] at e; cases e
        rw [upd_ne hc]; exact s4 _ _ (s2 c o e)
  · rintro σ H2 ⟨v2, v3, v4, kvs, rfl, e2, hN, hkl, s2⟩
    rw [hyl, List.take_length] at hN
    walk_at "go"
    exact q a kvs H2 ha e2 hN s2
end
structure Ow (K : PySem.W.Frag) (mg : Str → Option Value) (cO : Addr) : Prop where
  m_Sight : mg "Sight" = some (.ref cO)
  cl : Cls K cO
  n_known : NoAttr K cO "known"
  n_one_numbers : NoAttr K cO "one_numbers"
  n_other_numbers : NoAttr K cO "other_numbers"
abbrev s_Sight_init : Stmt := inClass (top 5) 0
theorem sc_Sight_init : FnScope ["self", "one", "other"] ["self", "one", "other"] (defScope s_Sight_init) := ⟨rfl, rfl, rfl, by decide +kernel, rfl, by decide +kernel, by decide +kernel⟩
abbrev s_Sight_tail_of : Stmt := inClass (top 5) 1
theorem sc_Sight_tail_of : FnScope ["self", "text", "begin"] ["self", "text"] (defScope s_Sight_tail_of) := ⟨rfl, rfl, rfl, by decide +kernel, rfl, by decide +kernel, by decide +kernel⟩
abbrev s_Sight_pair_at_end : Stmt := inClass (top 5) 2
theorem sc_Sight_pair_at_end : FnScope ["self", "text", "back", "ones", "others", "told_ones", "told_others"] ["self", "text", "back", "ones", "others"] (defScope s_Sight_pair_at_end) := ⟨rfl, rfl, rfl, by decide +kernel, rfl, by decide +kernel, by decide +kernel⟩
abbrev s_Sight_first : Stmt := inClass (top 5) 3
theorem sc_Sight_first : FnScope ["self"] ["self"] (defScope s_Sight_first) := ⟨rfl, rfl, rfl, by decide +kernel, rfl, by decide +kernel, by decide +kernel⟩
abbrev s_Sight_by_letter : Stmt := inClass (top 5) 4
theorem sc_Sight_by_letter : FnScope ["self", "view", "letter", "tail", "behind", "pair", "views"] ["self", "view", "letter"] (defScope s_Sight_by_letter) := ⟨rfl, rfl, rfl, by decide +kernel, rfl, by decide +kernel, by decide +kernel⟩
abbrev s_Sight_by_end : Stmt := inClass (top 5) 5
theorem sc_Sight_by_end : FnScope ["self", "view"] ["self", "view"] (defScope s_Sight_by_end) := ⟨rfl, rfl, rfl, by decide +kernel, rfl, by decide +kernel, by decide +kernel⟩
abbrev s_first_view : Stmt := top 6
theorem sc_first_view : FnScope ["one", "other"] ["one", "other"] (defScope s_first_view) := ⟨rfl, rfl, rfl, by decide +kernel, rfl, by decide +kernel, by decide +kernel⟩
abbrev s_next_views : Stmt := top 7
theorem sc_next_views : FnScope ["one", "other", "view", "letter"] ["one", "other", "view", "letter"] (defScope s_next_views) := ⟨rfl, rfl, rfl, by decide +kernel, rfl, by decide +kernel, by decide +kernel⟩
abbrev s_last_pairs : Stmt := top 8
theorem sc_last_pairs : FnScope ["one", "other", "view"] ["one", "other", "view"] (defScope s_last_pairs) := ⟨rfl, rfl, rfl, by decide +kernel, rfl, by decide +kernel, by decide +kernel⟩
/-- two lists of patterns, seen together -/
def SightAt (C : Addr) (H : Hp) (p : Addr) (one other : List Pat) : Prop := ∃ (dx kd od td : Addr) (ko kt : List (Key × V)), H p = some (.ins C dx [(("known" : Str), .ref kd), (("one_numbers" : Str), .ref od), (("other_numbers" : Str), .ref td)]) ∧
  H kd = some (.dK (bT (begs (one ++ other)))) ∧ H od = some (.dK ko) ∧ NT H ko (grt one) ∧ H td = some (.dK kt) ∧ NT H kt (grt other)
theorem SightAt.same {C : Addr} {H H' : Hp} {p : Addr} {one other : List Pat} (s : Same H H') (h : SightAt C H p one other) : SightAt C H' p one other := by
  obtain ⟨dx, kd, od, td, ko, kt, h1, h2, h3, h4, h5, h6⟩ := h
  exact ⟨dx, kd, od, td, ko, kt, s _ _ h1, s _ _ h2, s _ _ h3, h4.same s, s _ _ h5, h6.same s⟩
/-- a list of patterns that may be handed in -/
def OkP (xs : List Pat) : Prop := (∀ x ∈ xs, 1 ≤ x.1.length ∧ x.1.length ≤ 22 ∧ x.2.length = x.1.length + 1) ∧ xs.length ≤ 100
theorem OkP.grt {xs : List Pat} (h : OkP xs) : ∀ g ∈ L2.grt xs, g.2.length = g.1.length + 1 := grt_ok (fun g hg => nomatch hg) fun x hx => (h.1 x hx).2.2
def spSightI (C : Addr) : Sp := fun vs H Q _ => ∃ (p a b dx : Addr) (ya yb : List V) (one other : List Pat), vs = [.ref p, .ref a, .ref b] ∧ H p = some (.ins C dx []) ∧ H a = some (.lst ya) ∧ H b = some (.lst yb) ∧ L2.IsL H ya (one.map patD) ∧ L2.IsL H yb (other.map patD) ∧ OkP one ∧ OkP other ∧
  ∀ H', SightAt C H' p one other → (∀ b o, b ≠ p → H b = some o → H' b = some o) → Q .non H'
def spTail (C : Addr) : Sp := fun vs H Q _ => ∃ (p : Addr) (one other : List Pat) (t : List Nat), vs = [.ref p, .str (S t)] ∧ SightAt C H p one other ∧ t.length ≤ 1000 ∧ Q (.str (S (tailOf (begs (one ++ other)) t))) H
/-- the greatest of what is known and what is told at the end -/
def tell (xs : List Pat) (t : List Nat) (back : Nat) (i : Int) : Int := mx i (tAE (grt xs) t back (t.length + 1 - back))
def spPair (C : Addr) : Sp := fun vs H Q _ => ∃ (p : Addr) (one other : List Pat) (t : List Nat) (back : Nat) (i j : Int), vs = [.ref p, .str (S t), .int (back : Int), .int i, .int j] ∧ SightAt C H p one other ∧ OkP one ∧ OkP other ∧ t.length ≤ 1000 ∧ back ≤ 1000 ∧
  ∀ (a : Addr) (H' : Hp), H a = none → H' a = some (.tup [.int (tell one t back i), .int (tell other t back j)]) → Same H H' → Q (.ref a) H'
def spFirst (C : Addr) : Sp := fun vs H Q _ => ∃ (p : Addr) (one other : List Pat), vs = [.ref p] ∧ SightAt C H p one other ∧
  ∀ (a : Addr) (H' : Hp), H a = none → H' a = some (.tup [.str (S (tailOf (begs (one ++ other)) [46])), .non, .int 0, .int 0]) → Same H H' → Q (.ref a) H'
/-- what comes by a letter: views, and pairs -/
def nextV (one other : List Pat) (v : View) (c : Nat) : View := ⟨tailOf (begs (one ++ other)) (v.t ++ [c]), some ((v.b.map (· + 1)).getD 0), tell one (tailOf (begs (one ++ other)) (v.t ++ [c])) ((v.b.map (· + 1)).getD 0) v.i, tell other (tailOf (begs (one ++ other)) (v.t ++ [c])) ((v.b.map (· + 1)).getD 0) v.j⟩
def settled (one other : List Pat) (v : View) (c : Nat) : Bool := decide ((nextV one other v c).t.length < (v.b.map (· + 1)).getD 0)
def nextVs (one other : List Pat) (v : View) (c : Nat) : List View := if settled one other v c = true then [] else (if v.b = none then [⟨(nextV one other v c).t, none, 0, 0⟩] else []) ++ [nextV one other v c]
def nextPs (one other : List Pat) (v : View) (c : Nat) : List (Int × Int) := if settled one other v c = true then [((nextV one other v c).i, (nextV one other v c).j)] else []
def OkV (v : View) : Prop := v.t.length ≤ 100 ∧ ∀ n, v.b = some n → n ≤ 100
def lastPs (one other : List Pat) (v : View) : List (Int × Int) := match v.b with
  | none => []
  | some 0 => []
  | some (n + 1) => [(tell one (v.t ++ [46]) (n + 2) v.i, tell other (v.t ++ [46]) (n + 2) v.j)]
/-- two new lists in a tuple -/
def Told2 (H : Hp) (zd ud : List Dt) (Q : VK) : Prop := ∀ (a lv lp : Addr) (zs us : List V) (H' : Hp), H' a = some (.tup [.ref lv, .ref lp]) → H' lv = some (.lst zs) → H' lp = some (.lst us) → lv ≠ lp → H lv = none → H lp = none → L2.IsL H' zs zd → L2.IsL H' us ud → Same H H' → Q (.ref a) H'
def Told1 (H : Hp) (ud : List Dt) (Q : VK) : Prop := ∀ (lp : Addr) (us : List V) (H' : Hp), H' lp = some (.lst us) → H lp = none → L2.IsL H' us ud → Same H H' → Q (.ref lp) H'
def spByLetter (C : Addr) : Sp := fun vs H Q _ => ∃ (p va : Addr) (one other : List Pat) (v : View) (c : Nat), vs = [.ref p, .ref va, .str (S [c])] ∧ SightAt C H p one other ∧ OkP one ∧ OkP other ∧ OkV v ∧ H va = some (.tup [.str (S v.t), bV v.b, .int v.i, .int v.j]) ∧
  Told2 H ((nextVs one other v c).map viewD) ((nextPs one other v c).map pairD) Q
def spByEnd (C : Addr) : Sp := fun vs H Q _ => ∃ (p va : Addr) (one other : List Pat) (v : View), vs = [.ref p, .ref va] ∧ SightAt C H p one other ∧ OkP one ∧ OkP other ∧ OkV v ∧ H va = some (.tup [.str (S v.t), bV v.b, .int v.i, .int v.j]) ∧
  Told1 H ((lastPs one other v).map pairD) Q
/-- two lists of patterns are handed in -/
def Two (H : Hp) (a b : Addr) (one other : List Pat) : Prop := ∃ ya yb, H a = some (.lst ya) ∧ H b = some (.lst yb) ∧ L2.IsL H ya (one.map patD) ∧ L2.IsL H yb (other.map patD) ∧ OkP one ∧ OkP other
theorem Two.same {H H' : Hp} {a b : Addr} {one other : List Pat} (s : Same H H') (h : Two H a b one other) : Two H' a b one other := by
  obtain ⟨ya, yb, h1, h2, h3, h4, h5⟩ := h
  exact ⟨ya, yb, s _ _ h1, s _ _ h2, IsL.same s h3, IsL.same s h4, h5⟩
def spFirstV : Sp := fun vs H Q _ => ∃ (a b : Addr) (one other : List Pat), vs = [.ref a, .ref b] ∧ Two H a b one other ∧
  ∀ (r : Addr) (H' : Hp), H' r = some (.tup [.str (S (tailOf (begs (one ++ other)) [46])), .non, .int 0, .int 0]) → Same H H' → Q (.ref r) H'
def spNextV : Sp := fun vs H Q _ => ∃ (a b va : Addr) (one other : List Pat) (v : View) (c : Nat), vs = [.ref a, .ref b, .ref va, .str (S [c])] ∧ Two H a b one other ∧ OkV v ∧ H va = some (.tup [.str (S v.t), bV v.b, .int v.i, .int v.j]) ∧
  Told2 H ((nextVs one other v c).map viewD) ((nextPs one other v c).map pairD) Q
def spLastP : Sp := fun vs H Q _ => ∃ (a b va : Addr) (one other : List Pat) (v : View), vs = [.ref a, .ref b, .ref va] ∧ Two H a b one other ∧ OkV v ∧ H va = some (.tup [.str (S v.t), bV v.b, .int v.i, .int v.j]) ∧
  Told1 H ((lastPs one other v).map pairD) Q
section
variable {P : Program} {w : World} {K : PySem.W.Frag} {mg : Str → Option Value} {base : Heap} {f : Addr} {fd : FuncData} {tk : Nat → Tok} {cO : Addr}
theorem ok_Sight_init (T : Txt mg tk) (O : Ow K mg cO) (F : Fun K "__init__" "Sight.__init__" s_Sight_init f fd) (D_beginnings : Dn P w K mg base "beginnings" 1 ["patterns"] spBegs) (D_greatest_numbers : Dn P w K mg base "greatest_numbers" 1 ["patterns"] spGrt) : FnOk P w K mg base CX0 2 f fd ["self", "one", "other"] (spSightI cO) := by
  refine F.ok sc_Sight_init (fun vs H Q E h => ?_) (fun cdv A outer s H vs Q E hr h => ?_)
  · obtain ⟨p, a, b, dx, ya, yb, one, other, rfl, _⟩ := h
    rfl
  obtain ⟨p, a, b, dx, ya, yb, one, other, rfl, hp, ha, hb, hya, hyb, ho1, ho2, q⟩ := h
  have nd := sc_Sight_init.nd
  have hl1 := hya.length
  have hl2 := hyb.length
  rw [List.length_map] at hl1 hl2
  have hz1 := ho1.2
  have hz2 := ho2.2
  refine ⟨_, (pss_cons (ps_fld (pv 0) (pe_callD D_beginnings (hr.mono (by first | decide | omega)) rfl (pa_cons (pe_op o_add (pv 1) (pv 2)) pa_nil)) rfl)
    (pss_cons (ps_fld (pv 0) (pe_callD D_greatest_numbers (hr.mono (by first | decide | omega)) rfl (pa_cons (pv 1) pa_nil)) rfl)
    (pss_one (ps_fld (pv 0) (pe_callD D_greatest_numbers (hr.mono (by first | decide | omega)) rfl (pa_cons (pv 2) pa_nil)) rfl)))), ?_⟩
  rw [show L2.start ["self", "one", "other"] [.ref p, .ref a, .ref b] = [some (.ref p), some (.ref a), some (.ref b)] from rfl]
  refine i_seq (i_fldS ?_)
  walk_at "go"
  refine i_addL ha hb (szn (by omega)) fun c hc => ?_
  have s1 := same_new hc (.lst (ya ++ yb))
  walk_at "go"
  refine ⟨.ref c, one ++ other, rfl, ?_, fun x hx => ?_, by rw [List.length_append]; omega, fun kd H2 hkd ekd s2 => ?_⟩
  · simp only [Is, patsD]
    exact ⟨c, _, rfl, upd_same, by rw [List.map_append]; exact IsL.append (IsL.same s1 hya) (IsL.same s1 hyb)⟩
  · rcases List.mem_append.mp hx with h | h
    · have := (ho1.1 x h).2.1; omega
    · have := (ho2.1 x h).2.1; omega
  have s02 := s1.trans s2
  walk_at "go"
  refine i_fld2 (s02 _ _ hp) O.cl O.n_known (by decide) ?_
  have hp2 := s02 _ _ hp
  have d2 := Dat.ins hp2 (.ins cO dx (putF ("known" : Str) (.ref kd) []))
  have d02 := s02.dat.trans d2
  have e2 := upd_same (H := H2) (a := p) (o := .ins cO dx (putF ("known" : Str) (.ref kd) []))
  have o2 := off_upd (p := p) (x := .ins cO dx (putF ("known" : Str) (.ref kd) [])) (fun b o _ e => s02 b o e)
  have ekd2 := d2.2.2 _ _ ekd
  generalize upd H2 p (.ins cO dx (putF ("known" : Str) (.ref kd) [])) = H3 at d02 e2 o2 ekd2 ⊢
  walk_at "go"
  refine i_seq (i_fldS ?_)
  walk_at "go"
  refine ⟨.ref a, one, rfl, ?_, fun x hx => ⟨by have := (ho1.1 x hx).2.1; omega, (ho1.1 x hx).2.2⟩, by omega, fun od ko H4 hod eod nod s4 => ?_⟩
  · simp only [Is, patsD]
    exact ⟨a, ya, rfl, d02.1 _ _ ha, IsL.dat d02 hya⟩
  walk_at "go"
  refine i_fld2 (s4 _ _ e2) O.cl O.n_one_numbers (show 1 < 1000 by decide) ?_
  have d4 := Dat.ins (s4 _ _ e2) (.ins cO dx (putF ("one_numbers" : Str) (.ref od) (putF ("known" : Str) (.ref kd) [])))
  have d04 := (d02.trans s4.dat).trans d4
  have e4 := upd_same (H := H4) (a := p) (o := .ins cO dx (putF ("one_numbers" : Str) (.ref od) (putF ("known" : Str) (.ref kd) [])))
  have o4 := off_upd (p := p) (x := .ins cO dx (putF ("one_numbers" : Str) (.ref od) (putF ("known" : Str) (.ref kd) []))) (off_new o2 s4)
  have ekd4 := d4.2.2 _ _ (s4 _ _ ekd2)
  have eod4 := d4.2.2 _ _ eod
  have nod4 := nod.dat d4
  generalize upd H4 p (.ins cO dx (putF ("one_numbers" : Str) (.ref od) (putF ("known" : Str) (.ref kd) []))) = H5 at d04 e4 o4 ekd4 eod4 nod4 ⊢
  walk_at "go"
  refine i_fldS ?_
  walk_at "go"
  refine ⟨.ref b, other, rfl, ?_, fun x hx => ⟨by have := (ho2.1 x hx).2.1; omega, (ho2.1 x hx).2.2⟩, by omega, fun td kt H6 htd etd ntd s6 => ?_⟩
  · simp only [Is, patsD]
    exact ⟨b, yb, rfl, d04.1 _ _ hb, IsL.dat d04 hyb⟩
  walk_at "go"
  refine i_fld2 (s6 _ _ e4) O.cl O.n_other_numbers (show 2 < 1000 by decide) ?_
  have d6 := Dat.ins (s6 _ _ e4) (.ins cO dx (putF ("other_numbers" : Str) (.ref td) (putF ("one_numbers" : Str) (.ref od) (putF ("known" : Str) (.ref kd) []))))
  walk_at "go"
  exact q _ ⟨dx, kd, od, td, ko, kt, upd_same, d6.2.2 _ _ (s6 _ _ ekd4), d6.2.2 _ _ (s6 _ _ eod4), (nod4.same s6).dat d6, d6.2.2 _ _ etd, ntd.dat d6⟩ (off_upd (off_new o4 s6))
theorem ok_Sight_tail_of (T : Txt mg tk) (O : Ow K mg cO) (F : Fun K "tail_of" "Sight.tail_of" s_Sight_tail_of f fd) : FnOk P w K mg base CX0 1 f fd ["self", "text"] (spTail cO) := by
  refine F.ok sc_Sight_tail_of (fun vs H Q E h => ?_) (fun cdv A outer s H vs Q E hr h => ?_)
  · obtain ⟨p, one, other, t, rfl, _⟩ := h
    rfl
  obtain ⟨p, one, other, t, rfl, hs, hl, q⟩ := h
  obtain ⟨dx, kd, od, td, ko, kt, e1, e2, e3, e4, e5, e6⟩ := hs
  have nd := sc_Sight_tail_of.nd
  refine ⟨_, (pss_cons (ps_for PassesOwn.never rfl (pi_range1 rfl T.z_range (pa_cons (pe_callB (c_len (K := K)) rfl T.z_len (by decide +kernel) (pa_cons (pv 1) pa_nil)) pa_nil)) (pg_name (i := 2) nd rfl (Or.inl rfl))
     (pss_one (ps_if (pt_cmp (pc_din (hu_of hr) (pe_slice (sl_any (K := K)) (pv 1) (po_some (pv 2)) po_none) (pe_fld (pv 0) rfl)))
     (pss_one (ps_ret (pe_slice (sl_any (K := K)) (pv 1) (po_some (pv 2)) po_none)))
     pss_nil)))
    (pss_one (ps_ret pe_str))), ?_⟩
  rw [show L2.start ["self", "text", "begin"] [.ref p, .str (S t)] = [some (.ref p), some (.str (S t)), none] from rfl]
  rw [t_empty]
  generalize hB : begs (one ++ other) = B at q e2
  walk_at "go"
  refine for_range (fun i σ H' => ∃ (v2 : Option V), H' = H ∧ σ = [some (.ref p), some (.str (S t)), v2] ∧ tailOf B t = tailOf B (t.drop i)) ⟨none, rfl, rfl, rfl⟩ ?_ ?_
  · rintro i σ H' hi ⟨v2, rfl, rfl, ht⟩
    have hil : i < t.length := by omega
    have hcut : cutA t (some (0 + (i : Int))) none = t.drop i := by rw [Int.zero_add]; exact cut_from t i (by omega)
    walk_at "go"
    refine i_tB (i_din ?_)
    walk_at "go"
    refine i_fldE ?_
    walk_at "go"
    refine i_fld1 e1 O.cl O.n_known rfl ?_
    rw [hcut]
    refine ⟨kd, _, rfl, DGet.k (k := Sum.inr (S (t.drop i))) e2, ?_⟩
    rw [bT_val]
    have hdc : t.drop i = t[i] :: t.drop (i + 1) := List.drop_eq_getElem_cons hil
    by_cases hm : t.drop i ∈ B
    · rw [if_pos hm]
      walk_at "go"
      have hte : tailOf B (t.drop i) = t.drop i := by rw [hdc] at hm ⊢; unfold tailOf; rw [if_pos hm]
      rw [hcut]
      rw [ht, hte] at q
      exact q
    · rw [if_neg hm]
      walk_at "go"
      refine ⟨_, rfl, rfl, ?_⟩
      rw [ht]
      rw [hdc] at hm ⊢
      conv => lhs; unfold tailOf
      rw [if_neg hm]
  · rintro σ H' ⟨v2, rfl, rfl, ht⟩
    rw [show ((t.length : Int)).toNat = t.length by omega, List.drop_length] at ht
    walk_at "go"
    rw [ht] at q
    exact q
theorem ok_Sight_pair_at_end (T : Txt mg tk) (O : Ow K mg cO) (F : Fun K "pair_at_end" "Sight.pair_at_end" s_Sight_pair_at_end f fd) (D_told_at_end : Dn P w K mg base "told_at_end" 1 ["numbers_by_signs", "text", "back"] spTAE) : FnOk P w K mg base CX0 2 f fd ["self", "text", "back", "ones", "others"] (spPair cO) := by
  refine F.ok sc_Sight_pair_at_end (fun vs H Q E h => ?_) (fun cdv A outer s H vs Q E hr h => ?_)
  · obtain ⟨p, one, other, t, back, i, j, rfl, _⟩ := h
    rfl
  obtain ⟨p, one, other, t, back, i, j, rfl, hs, ho1, ho2, hl, hbk, q⟩ := h
  obtain ⟨dx, kd, od, td, ko, kt, e1, e2, e3, e4, e5, e6⟩ := hs
  have nd := sc_Sight_pair_at_end.nd
  refine ⟨_, (pss_cons (ps_set (i := 5) nd rfl (Or.inl rfl) (pe_callD D_told_at_end (hr.mono (by first | decide | omega)) rfl (pa_cons (pe_fld (pv 0) rfl) (pa_cons (pv 1) (pa_cons (pv 2) pa_nil)))))
    (pss_cons (ps_set (i := 6) nd rfl (Or.inl rfl) (pe_callD D_told_at_end (hr.mono (by first | decide | omega)) rfl (pa_cons (pe_fld (pv 0) rfl) (pa_cons (pv 1) (pa_cons (pv 2) pa_nil)))))
    (pss_one (ps_ret (pe_tup (pa_cons (pe_callB (c_max rfl) rfl T.z_max (by decide +kernel) (pa_cons (pv 3) (pa_cons (pv 5) pa_nil))) (pa_cons (pe_callB (c_max rfl) rfl T.z_max (by decide +kernel) (pa_cons (pv 4) (pa_cons (pv 6) pa_nil))) pa_nil))))))), ?_⟩
  rw [show L2.start ["self", "text", "back", "ones", "others", "told_ones", "told_others"] [.ref p, .str (S t), .int (back : Int), .int i, .int j] = [some (.ref p), some (.str (S t)), some (.int (back : Int)), some (.int i), some (.int j), none, none] from rfl]
  walk_at "go"
  refine i_fldE ?_
  walk_at "go"
  refine i_fld1 e1 O.cl O.n_one_numbers rfl ?_
  walk_at "go"
  refine ⟨od, ko, grt one, t, back, rfl, e3, e4, ho1.grt, hl, hbk, ?_⟩
  walk_at "go"
  refine i_fldE ?_
  walk_at "go"
  refine i_fld1 e1 O.cl O.n_other_numbers rfl ?_
  walk_at "go"
  refine ⟨td, kt, grt other, t, back, rfl, e5, e6, ho2.grt, hl, hbk, ?_⟩
  walk_at "go"
  intro a ha
  exact q a _ ha upd_same (same_new ha _)
theorem ok_Sight_first (T : Txt mg tk) (O : Ow K mg cO) (F : Fun K "first" "Sight.first" s_Sight_first f fd) (D_Sight_tail_of : Dm P w K mg base cO "tail_of" 1 ["self", "text"] (spTail cO)) : FnOk P w K mg base CX0 2 f fd ["self"] (spFirst cO) := by
  refine F.ok sc_Sight_first (fun vs H Q E h => ?_) (fun cdv A outer s H vs Q E hr h => ?_)
  · obtain ⟨p, one, other, rfl, _⟩ := h
    rfl
  obtain ⟨p, one, other, rfl, hs, q⟩ := h
  obtain ⟨dx, kd, od, td, ko, kt, e1, r⟩ := id hs
  have nd := sc_Sight_first.nd
  refine ⟨_, (pss_one (ps_ret (pe_tup (pa_cons (pe_methD (pv 0) O.cl D_Sight_tail_of (hr.mono (by first | decide | omega)) (pa_cons pe_str pa_nil)) (pa_cons pe_non (pa_cons pe_int (pa_cons pe_int pa_nil))))))), ?_⟩
  rw [show L2.start ["self"] [.ref p] = [some (.ref p)] from rfl]
  rw [t_dot]
  walk_at "go"
  refine i_meth ?_
  walk_at "go"
  refine i_self e1 rfl ?_
  walk_at "go"
  refine ⟨p, one, other, [46], rfl, hs, by decide, ?_⟩
  walk_at "go"
  intro a ha
  exact q a _ ha upd_same (same_new ha _)
end
section
variable {P : Program} {w : World} {K : PySem.W.Frag} {mg : Str → Option Value} {base : Heap} {f : Addr} {fd : FuncData} {tk : Nat → Tok} {cO : Addr}
theorem ok_Sight_by_letter (T : Txt mg tk) (O : Ow K mg cO) (F : Fun K "by_letter" "Sight.by_letter" s_Sight_by_letter f fd) (D_Sight_tail_of : Dm P w K mg base cO "tail_of" 1 ["self", "text"] (spTail cO)) (D_Sight_pair_at_end : Dm P w K mg base cO "pair_at_end" 2 ["self", "text", "back", "ones", "others"] (spPair cO)) : FnOk P w K mg base CX0 3 f fd ["self", "view", "letter"] (spByLetter cO) := by
  refine F.ok sc_Sight_by_letter (fun vs H Q E h => ?_) (fun cdv A outer s H vs Q E hr h => ?_)
  · obtain ⟨p, va, one, other, v, c, rfl, _⟩ := h
    rfl
  obtain ⟨p, va, one, other, v, c, rfl, hs, ho1, ho2, hv, ev, q⟩ := h
  obtain ⟨vt, vb, vi, vj⟩ := v
  obtain ⟨hvt, hvb⟩ := hv
  have hvt : vt.length ≤ 100 := hvt
  have hvb : ∀ n, vb = some n → n ≤ 100 := hvb
  have ev : H va = some (.tup [.str (S vt), bV vb, .int vi, .int vj]) := ev
  obtain ⟨dx, kd, od, td, ko, kt, e1, _⟩ := id hs
  have nd := sc_Sight_by_letter.nd
  refine ⟨_, (pss_cons (ps_set (i := 3) nd rfl (Or.inl rfl) (pe_methD (pv 0) O.cl D_Sight_tail_of (hr.mono (by first | decide | omega)) (pa_cons (pe_op o_add (pe_ix (ix_any (K := K)) (pv 1) pe_int (fun _ _ => rfl)) (pv 2)) pa_nil)))
    (pss_cons (ps_set (i := 4) nd rfl (Or.inl rfl) (pe_ifExp (pt_cmpR o_is (pe_ix (ix_any (K := K)) (pv 1) pe_int (fun _ _ => rfl)) pe_non (nomark _)) pe_int (pe_op o_add (pe_ix (ix_any (K := K)) (pv 1) pe_int (fun _ _ => rfl)) pe_int)))
    (pss_cons (ps_set (i := 5) nd rfl (Or.inl rfl) (pe_methD (pv 0) O.cl D_Sight_pair_at_end (hr.mono (by first | decide | omega)) (pa_cons (pv 3) (pa_cons (pv 4) (pa_cons (pe_ix (ix_any (K := K)) (pv 1) pe_int (fun _ _ => rfl)) (pa_cons (pe_ix (ix_any (K := K)) (pv 1) pe_int (fun _ _ => rfl)) pa_nil))))))
    (pss_cons (ps_if (pt_cmpR o_lt (pe_callB (c_len (K := K)) rfl T.z_len (by decide +kernel) (pa_cons (pv 3) pa_nil)) (pv 4) (nomark _))
     (pss_one (ps_ret (pe_tup (pa_cons (pe_lst pa_nil) (pa_cons (pe_lst (pa_cons (pv 5) pa_nil)) pa_nil)))))
     pss_nil)
    (pss_cons (ps_set (i := 6) nd rfl (Or.inl rfl) (pe_lst (pa_cons (pe_tup (pa_cons (pv 3) (pa_cons (pv 4) (pa_cons (pe_ix (ix_any (K := K)) (pv 5) pe_int (fun _ _ => rfl)) (pa_cons (pe_ix (ix_any (K := K)) (pv 5) pe_int (fun _ _ => rfl)) pa_nil))))) pa_nil)))
    (pss_cons (ps_if (pt_cmpR o_is (pe_ix (ix_any (K := K)) (pv 1) pe_int (fun _ _ => rfl)) pe_non (nomark _))
     (pss_one (ps_expr (pe_bmK (K := K) PySem.F.plainAttrs_list PySem.F.slot_list_insert PySem.F.type_list_insert m_insert2 (pv 6) (pa_cons pe_int (pa_cons (pe_tup (pa_cons (pv 3) (pa_cons pe_non (pa_cons pe_int (pa_cons pe_int pa_nil))))) pa_nil)))))
     pss_nil)
    (pss_one (ps_ret (pe_tup (pa_cons (pv 6) (pa_cons (pe_lst pa_nil) pa_nil))))))))))), ?_⟩
  rw [show L2.start ["self", "view", "letter", "tail", "behind", "pair", "views"] [.ref p, .ref va, .str (S [c])] = [some (.ref p), some (.ref va), some (.str (S [c])), none, none, none, none] from rfl]
  walk_at "go"
  refine i_meth ?_
  walk_at "go"
  refine i_self e1 rfl ?_
  walk_at "go"
  refine ⟨p, one, other, vt ++ [c], rfl, hs, by rw [List.length_append]; show _ + 1 ≤ _; omega, ?_⟩
  have htl : (tailOf (begs (one ++ other)) (vt ++ [c])).length ≤ 101 := by
    have := (tailOf_suf (begs (one ++ other)) (vt ++ [c])).length_le
    rw [List.length_append] at this
    exact Nat.le_trans this (by show _ + 1 ≤ _; omega)
  have hnv : ∀ b', (vb.map (· + 1)).getD 0 = b' → nextV one other ⟨vt, vb, vi, vj⟩ c = ⟨tailOf (begs (one ++ other)) (vt ++ [c]), some b', tell one (tailOf (begs (one ++ other)) (vt ++ [c])) b' vi, tell other (tailOf (begs (one ++ other)) (vt ++ [c])) b' vj⟩ := fun b' h => by
    subst h; rfl
  cases vb with
  | none =>
    have hn := hnv 0 rfl
    have hse : settled one other ⟨vt, none, vi, vj⟩ c = false := decide_eq_false (Nat.not_lt_zero _)
    have hvs : nextVs one other ⟨vt, none, vi, vj⟩ c = [⟨(nextV one other ⟨vt, none, vi, vj⟩ c).t, none, 0, 0⟩, nextV one other ⟨vt, none, vi, vj⟩ c] := by
      unfold nextVs; rw [hse, if_neg Bool.false_ne_true, if_pos rfl]; rfl
    have hps : nextPs one other ⟨vt, none, vi, vj⟩ c = [] := by unfold nextPs; rw [hse, if_neg Bool.false_ne_true]
    rw [hvs, hps, hn] at q
    clear hvs hps hn hnv hse
    generalize tailOf (begs (one ++ other)) (vt ++ [c]) = t' at htl q ⊢
    have ev : H va = some (.tup [.str (S vt), .non, .int vi, .int vj]) := ev
    walk_at "go"
    refine i_meth ?_
    walk_at "go"
    refine i_self e1 rfl ?_
    walk_at "go"
    refine ⟨p, one, other, t', 0, vi, vj, rfl, hs, ho1, ho2, by omega, by decide, fun pr H1 hpr epr s1 => ?_⟩
    have ev1 := s1 _ _ ev
    walk_at "go"
    try refine iteDF (by intro z; omega) ?_
    walk_at "go"
    intro w1 hw1
    walk_at "go"
    intro vl hvl
    have nwl : w1 ≠ vl := ne_of_none upd_same hvl
    have sw := (same_new hw1 (.tup [.str (S t'), .int 0, .int (tell one t' 0 vi), .int (tell other t' 0 vj)])).trans (same_new hvl (.lst [.ref w1]))
    have ev2 := sw _ _ ev1
    have ew1 : (upd (upd H1 w1 (.tup [.str (S t'), .int 0, .int (tell one t' 0 vi), .int (tell other t' 0 vj)])) vl (.lst [.ref w1])) w1 = _ := (same_new hvl _) _ _ upd_same
    have evl := upd_same (H := upd H1 w1 (.tup [.str (S t'), .int 0, .int (tell one t' 0 vi), .int (tell other t' 0 vj)])) (a := vl) (o := .lst [.ref w1])
    have hvl1 : H1 vl = none := (same_new hw1 _).free hvl
    generalize upd (upd H1 w1 (.tup [.str (S t'), .int 0, .int (tell one t' 0 vi), .int (tell other t' 0 vj)])) vl (.lst [.ref w1]) = H2 at sw ev2 ew1 evl ⊢
    walk_at "go"
    intro w2 hw2
    have s3 := same_new hw2 (.tup [.str (S t'), .non, .int 0, .int 0])
    have evl3 := s3 _ _ evl
    have ew13 := s3 _ _ ew1
    have ew2 := upd_same (H := H2) (a := w2) (o := .tup [.str (S t'), .non, .int 0, .int 0])
    generalize upd H2 w2 (.tup [.str (S t'), .non, .int 0, .int 0]) = H3 at s3 evl3 ew13 ew2 ⊢
    walk_at "go"
    refine i_insL evl3 ⟨by decide, (show (0 : Int) ≤ 1 by decide), (show 1 < 1000000 by decide)⟩ ?_
    have k4 : Tk H3 (upd H3 vl (.lst ([V.ref w1].take (0 : Int).toNat ++ .ref w2 :: [V.ref w1].drop (0 : Int).toNat))) := Tk.lst evl3 _
    have s4 : Same H1 (upd H3 vl (.lst ([V.ref w1].take (0 : Int).toNat ++ .ref w2 :: [V.ref w1].drop (0 : Int).toNat))) := fun b o e => by
      have hb : b ≠ vl := fun z => by rw [z, hvl1] at e; cases e
      rw [upd_ne hb]; exact s3 _ _ (sw _ _ e)
    have evl4 : (upd H3 vl (.lst ([V.ref w1].take (0 : Int).toNat ++ .ref w2 :: [V.ref w1].drop (0 : Int).toNat))) vl = some (.lst [.ref w2, .ref w1]) := upd_same
    have ew14 := k4 _ _ ew13
    have ew24 := k4 _ _ ew2
    generalize upd H3 vl (.lst ([V.ref w1].take (0 : Int).toNat ++ .ref w2 :: [V.ref w1].drop (0 : Int).toNat)) = H4 at k4 s4 evl4 ew14 ew24 ⊢
    walk_at "go"
    intro pl hpl
    walk_at "go"
    intro r hr0
    have s6 := (same_new hpl (.lst [])).trans (same_new hr0 (.tup [.ref vl, .ref pl]))
    have s06 := (s1.trans s4).trans s6
    refine q r vl pl _ _ _ upd_same (s6 _ _ evl4) ((same_new hr0 _) _ _ upd_same) (ne_of_none evl4 hpl) (s1.free hvl1) ((s1.trans s4).free hpl) ?_ ?_ s06
    · simp only [List.map_cons, List.map_nil, L2.IsL]
      exact ⟨isView_mk (v := ⟨t', none, 0, 0⟩) (s6 _ _ ew24), isView_mk (v := ⟨t', some 0, _, _⟩) (s6 _ _ ew14), trivial⟩
    · simp only [List.map_nil, L2.IsL]
  | some n =>
    have hn100 := hvb n rfl
    have hn := hnv (n + 1) rfl
    have ev : H va = some (.tup [.str (S vt), .int (n : Int), .int vi, .int vj]) := ev
    have hset : settled one other ⟨vt, some n, vi, vj⟩ c = decide ((tailOf (begs (one ++ other)) (vt ++ [c])).length < n + 1) := rfl
    have hvs : nextVs one other ⟨vt, some n, vi, vj⟩ c = if (tailOf (begs (one ++ other)) (vt ++ [c])).length < n + 1 then [] else [nextV one other ⟨vt, some n, vi, vj⟩ c] := by
      unfold nextVs; rw [hset, if_neg (show ¬ (some n = none) from fun z => nomatch z)]
      by_cases hx : (tailOf (begs (one ++ other)) (vt ++ [c])).length < n + 1
      · rw [if_pos hx, if_pos (decide_eq_true hx)]
      · rw [if_neg hx, if_neg (by simpa using hx)]; rfl
    have hps : nextPs one other ⟨vt, some n, vi, vj⟩ c = if (tailOf (begs (one ++ other)) (vt ++ [c])).length < n + 1 then [((nextV one other ⟨vt, some n, vi, vj⟩ c).i, (nextV one other ⟨vt, some n, vi, vj⟩ c).j)] else [] := by
      unfold nextPs; rw [hset]
      by_cases hx : (tailOf (begs (one ++ other)) (vt ++ [c])).length < n + 1
      · rw [if_pos hx, if_pos (decide_eq_true hx)]
      · rw [if_neg hx, if_neg (by simpa using hx)]
    rw [hvs, hps, hn] at q
    clear hvs hps hn hnv hset
    generalize tailOf (begs (one ++ other)) (vt ++ [c]) = t' at htl q ⊢
    walk_at "go"
    refine i_meth ?_
    walk_at "go"
    refine i_self e1 rfl ?_
    walk_at "go"
    refine ⟨p, one, other, t', n + 1, vi, vj, rfl, hs, ho1, ho2, by omega, by omega, fun pr H1 hpr epr s1 => ?_⟩
    have ev1 := s1 _ _ ev
    walk_at "go"
    refine iteD (fun cx => ?_) (fun cx => ?_)
    · rw [if_pos (by omega), if_pos (by omega)] at q
      walk_at "go"
      intro vl hvl
      walk_at "go"
      intro pl hpl
      walk_at "go"
      intro r hr0
      have s6 := ((same_new hvl (.lst [])).trans (same_new hpl (.lst [.ref pr]))).trans (same_new hr0 (.tup [.ref vl, .ref pl]))
      have s06 := s1.trans s6
      have evl : (upd (upd (upd H1 vl (.lst [])) pl (.lst [.ref pr])) r (.tup [.ref vl, .ref pl])) vl = some (.lst []) := (same_new hr0 _) _ _ ((same_new hpl _) _ _ upd_same)
      refine q r vl pl _ _ _ upd_same evl ((same_new hr0 _) _ _ upd_same) (ne_of_none upd_same hpl) (s1.free hvl) (s1.free ((same_new hvl _).free hpl)) ?_ ?_ s06
      · simp only [List.map_nil, L2.IsL]
      · simp only [List.map_cons, List.map_nil, L2.IsL]
        exact ⟨isPair_mk (p := (_, _)) (s6 _ _ epr), trivial⟩
    · rw [if_neg (by omega), if_neg (by omega)] at q
      walk_at "go"
      intro w1 hw1
      walk_at "go"
      intro vl hvl
      have sw := (same_new hw1 (.tup [.str (S t'), .int ((n : Int) + 1), .int (tell one t' (n + 1) vi), .int (tell other t' (n + 1) vj)])).trans (same_new hvl (.lst [.ref w1]))
      have ev2 := sw _ _ ev1
      have ew1 : (upd (upd H1 w1 (.tup [.str (S t'), .int ((n : Int) + 1), .int (tell one t' (n + 1) vi), .int (tell other t' (n + 1) vj)])) vl (.lst [.ref w1])) w1 = _ := (same_new hvl _) _ _ upd_same
      have evl := upd_same (H := upd H1 w1 (.tup [.str (S t'), .int ((n : Int) + 1), .int (tell one t' (n + 1) vi), .int (tell other t' (n + 1) vj)])) (a := vl) (o := .lst [.ref w1])
      have hvl1 : H1 vl = none := (same_new hw1 _).free hvl
      generalize upd (upd H1 w1 (.tup [.str (S t'), .int ((n : Int) + 1), .int (tell one t' (n + 1) vi), .int (tell other t' (n + 1) vj)])) vl (.lst [.ref w1]) = H2 at sw ev2 ew1 evl ⊢
      walk_at "go"
      intro pl hpl
      walk_at "go"
      intro r hr0
      have s6 := (same_new hpl (.lst [])).trans (same_new hr0 (.tup [.ref vl, .ref pl]))
      have s06 := (s1.trans sw).trans s6
      refine q r vl pl _ _ _ upd_same (s6 _ _ evl) ((same_new hr0 _) _ _ upd_same) (ne_of_none evl hpl) (s1.free hvl1) ((s1.trans sw).free hpl) ?_ ?_ s06
      · simp only [List.map_cons, List.map_nil, L2.IsL]
        exact ⟨isView_mk (v := ⟨t', some (n + 1), _, _⟩) (s6 _ _ ew1), trivial⟩
      · simp only [List.map_nil, L2.IsL]
theorem ok_Sight_by_end (T : Txt mg tk) (O : Ow K mg cO) (F : Fun K "by_end" "Sight.by_end" s_Sight_by_end f fd) (D_Sight_pair_at_end : Dm P w K mg base cO "pair_at_end" 2 ["self", "text", "back", "ones", "others"] (spPair cO)) : FnOk P w K mg base CX0 3 f fd ["self", "view"] (spByEnd cO) := by
  refine F.ok sc_Sight_by_end (fun vs H Q E h => ?_) (fun cdv A outer s H vs Q E hr h => ?_)
  · obtain ⟨p, va, one, other, v, rfl, _⟩ := h
    rfl
  obtain ⟨p, va, one, other, v, rfl, hs, ho1, ho2, hv, ev, q⟩ := h
  obtain ⟨vt, vb, vi, vj⟩ := v
  obtain ⟨hvt, hvb⟩ := hv
  have hvt : vt.length ≤ 100 := hvt
  have hvb : ∀ n, vb = some n → n ≤ 100 := hvb
  obtain ⟨dx, kd, od, td, ko, kt, e1, _⟩ := id hs
  have nd := sc_Sight_by_end.nd
  refine ⟨_, (pss_cons (ps_if (PW.pt (pw_or (pt_cmpR o_is (pe_ix (ix_any (K := K)) (pv 1) pe_int (fun _ _ => rfl)) pe_non (nomark _)) (pw_or1 (pt_cmpR (o_eq hr.units) (pe_ix (ix_any (K := K)) (pv 1) pe_int (fun _ _ => rfl)) pe_int (nomark _)))))
     (pss_one (ps_ret (pe_lst pa_nil)))
     pss_nil)
    (pss_one (ps_ret (pe_lst (pa_cons (pe_methD (pv 0) O.cl D_Sight_pair_at_end (hr.mono (by first | decide | omega)) (pa_cons (pe_op o_add (pe_ix (ix_any (K := K)) (pv 1) pe_int (fun _ _ => rfl)) pe_str) (pa_cons (pe_op o_add (pe_ix (ix_any (K := K)) (pv 1) pe_int (fun _ _ => rfl)) pe_int) (pa_cons (pe_ix (ix_any (K := K)) (pv 1) pe_int (fun _ _ => rfl)) (pa_cons (pe_ix (ix_any (K := K)) (pv 1) pe_int (fun _ _ => rfl)) pa_nil))))) pa_nil))))), ?_⟩
  rw [show L2.start ["self", "view"] [.ref p, .ref va] = [some (.ref p), some (.ref va)] from rfl]
  rw [t_dot]
  cases vb with
  | none =>
    have ev : H va = some (.tup [.str (S vt), .non, .int vi, .int vj]) := ev
    walk_at "go"
    intro r hr0
    exact q r [] _ upd_same hr0 (by simp only [lastPs, List.map_nil, L2.IsL]) (same_new hr0 _)
  | some n =>
    have hn100 := hvb n rfl
    cases n with
    | zero =>
      have ev : H va = some (.tup [.str (S vt), .int 0, .int vi, .int vj]) := ev
      walk_at "go"
      intro r hr0
      exact q r [] _ upd_same hr0 (by simp only [lastPs, List.map_nil, L2.IsL]) (same_new hr0 _)
    | succ n =>
      have ev : H va = some (.tup [.str (S vt), .int ((n + 1 : Nat) : Int), .int vi, .int vj]) := ev
      walk_at "go"
      try refine iteDF (fun z => by injection z with z; omega) ?_
      walk_at "go"
      refine i_meth ?_
      walk_at "go"
      refine i_self e1 rfl ?_
      walk_at "go"
      refine ⟨p, one, other, vt ++ [46], n + 2, vi, vj, rfl, hs, ho1, ho2, by rw [List.length_append]; show _ + 1 ≤ _; omega, by omega, fun pr H1 hpr epr s1 => ?_⟩
      walk_at "go"
      intro r hr0
      have s2 := same_new hr0 (.lst [.ref pr])
      refine q r _ _ upd_same (s1.free hr0) ?_ (s1.trans s2)
      simp only [lastPs, List.map_cons, List.map_nil, L2.IsL]
      exact ⟨isPair_mk (p := (_, _)) (s2 _ _ epr), trivial⟩
theorem made_same {H H' : Hp} {x dx C : Addr} (hx : H x = none) (hd : H dx = none) (h : ∀ b o, b ≠ x → (upd (upd H dx (.own x)) x (.ins C dx [])) b = some o → H' b = some o) : Same H H' := fun b o e => by
  have hb : b ≠ x := fun z => by rw [z, hx] at e; cases e
  have hb2 : b ≠ dx := fun z => by rw [z, hd] at e; cases e
  exact h b o hb (by rw [upd_ne hb, upd_ne hb2]; exact e)
theorem Two.made {H : Hp} {x dx C a b : Addr} {one other : List Pat} (hx : H x = none) (hd : H dx = none) (h : Two H a b one other) : Two (upd (upd H dx (.own x)) x (.ins C dx [])) a b one other := by
  have : Same H (upd (upd H dx (.own x)) x (.ins C dx [])) := made_same hx hd fun b o hb e => e
  exact h.same this
theorem ok_first_view (T : Txt mg tk) (O : Ow K mg cO) (F : Fun K "first_view" "first_view" s_first_view f fd) (D_Sight_init : Dk P w K mg base cO 2 ["self", "one", "other"] (spSightI cO)) (D_Sight_first : Dm P w K mg base cO "first" 2 ["self"] (spFirst cO)) : FnOk P w K mg base CX0 4 f fd ["one", "other"] spFirstV := by
  refine F.ok sc_first_view (fun vs H Q E h => ?_) (fun cdv A outer s H vs Q E hr h => ?_)
  · obtain ⟨a, b, one, other, rfl, _⟩ := h
    rfl
  obtain ⟨a, b, one, other, rfl, h2, q⟩ := h
  have nd := sc_first_view.nd
  refine ⟨_, (pss_one (ps_ret (pe_methD0 (pe_makeD D_Sight_init (hr.mono (by first | decide | omega)) rfl O.m_Sight (pa_cons (pv 0) (pa_cons (pv 1) pa_nil))) O.cl D_Sight_first (hr.mono (by first | decide | omega))))), ?_⟩
  rw [show L2.start ["one", "other"] [.ref a, .ref b] = [some (.ref a), some (.ref b)] from rfl]
  walk_at "go"
  refine i_meth (i_make ?_)
  walk_at "go"
  intro x dx hx hd hne
  obtain ⟨ya, yb, ha, hb, hya, hyb, ho1, ho2⟩ := h2.made (C := cO) hx hd
  refine ⟨x, a, b, dx, ya, yb, one, other, rfl, upd_same, ha, hb, hya, hyb, ho1, ho2, fun H' hs ho => ⟨rfl, ?_⟩⟩
  have s1 := made_same hx hd ho
  obtain ⟨dx', kd, od, td, ko, kt, e1, _⟩ := id hs
  refine i_self e1 rfl ?_
  walk_at "go"
  exact ⟨x, one, other, rfl, hs, fun r H2 hr0 e2 s2 => q r H2 e2 (s1.trans s2)⟩
theorem ok_next_views (T : Txt mg tk) (O : Ow K mg cO) (F : Fun K "next_views" "next_views" s_next_views f fd) (D_Sight_init : Dk P w K mg base cO 2 ["self", "one", "other"] (spSightI cO)) (D_Sight_by_letter : Dm P w K mg base cO "by_letter" 3 ["self", "view", "letter"] (spByLetter cO)) : FnOk P w K mg base CX0 4 f fd ["one", "other", "view", "letter"] spNextV := by
  refine F.ok sc_next_views (fun vs H Q E h => ?_) (fun cdv A outer s H vs Q E hr h => ?_)
  · obtain ⟨a, b, va, one, other, v, c, rfl, _⟩ := h
    rfl
  obtain ⟨a, b, va, one, other, v, c, rfl, h2, hv, ev, q⟩ := h
  have nd := sc_next_views.nd
  refine ⟨_, (pss_one (ps_ret (pe_methD (pe_makeD D_Sight_init (hr.mono (by first | decide | omega)) rfl O.m_Sight (pa_cons (pv 0) (pa_cons (pv 1) pa_nil))) O.cl D_Sight_by_letter (hr.mono (by first | decide | omega)) (pa_cons (pv 2) (pa_cons (pv 3) pa_nil))))), ?_⟩
  rw [show L2.start ["one", "other", "view", "letter"] [.ref a, .ref b, .ref va, .str (S [c])] = [some (.ref a), some (.ref b), some (.ref va), some (.str (S [c]))] from rfl]
  walk_at "go"
  refine i_meth (i_make ?_)
  walk_at "go"
  intro x dx hx hd hne
  obtain ⟨ya, yb, ha, hb, hya, hyb, ho1, ho2⟩ := h2.made (C := cO) hx hd
  refine ⟨x, a, b, dx, ya, yb, one, other, rfl, upd_same, ha, hb, hya, hyb, ho1, ho2, fun H' hs ho => ⟨rfl, ?_⟩⟩
  have s1 := made_same hx hd ho
  obtain ⟨dx', kd, od, td, ko, kt, e1, _⟩ := id hs
  refine i_self e1 rfl ?_
  walk_at "go"
  refine ⟨x, va, one, other, v, c, rfl, hs, ho1, ho2, hv, s1 _ _ ev, fun r lv lp zs us H2 h1 h2 h3 h4 h5 h6 h7 h8 s2 => q r lv lp zs us H2 h1 h2 h3 h4 (s1.free h5) (s1.free h6) h7 h8 (s1.trans s2)⟩
theorem ok_last_pairs (T : Txt mg tk) (O : Ow K mg cO) (F : Fun K "last_pairs" "last_pairs" s_last_pairs f fd) (D_Sight_init : Dk P w K mg base cO 2 ["self", "one", "other"] (spSightI cO)) (D_Sight_by_end : Dm P w K mg base cO "by_end" 3 ["self", "view"] (spByEnd cO)) : FnOk P w K mg base CX0 4 f fd ["one", "other", "view"] spLastP := by
  refine F.ok sc_last_pairs (fun vs H Q E h => ?_) (fun cdv A outer s H vs Q E hr h => ?_)
  · obtain ⟨a, b, va, one, other, v, rfl, _⟩ := h
    rfl
  obtain ⟨a, b, va, one, other, v, rfl, h2, hv, ev, q⟩ := h
  have nd := sc_last_pairs.nd
  refine ⟨_, (pss_one (ps_ret (pe_methD (pe_makeD D_Sight_init (hr.mono (by first | decide | omega)) rfl O.m_Sight (pa_cons (pv 0) (pa_cons (pv 1) pa_nil))) O.cl D_Sight_by_end (hr.mono (by first | decide | omega)) (pa_cons (pv 2) pa_nil)))), ?_⟩
  rw [show L2.start ["one", "other", "view"] [.ref a, .ref b, .ref va] = [some (.ref a), some (.ref b), some (.ref va)] from rfl]
  walk_at "go"
  refine i_meth (i_make ?_)
  walk_at "go"
  intro x dx hx hd hne
  obtain ⟨ya, yb, ha, hb, hya, hyb, ho1, ho2⟩ := h2.made (C := cO) hx hd
  refine ⟨x, a, b, dx, ya, yb, one, other, rfl, upd_same, ha, hb, hya, hyb, ho1, ho2, fun H' hs ho => ⟨rfl, ?_⟩⟩
  have s1 := made_same hx hd ho
  obtain ⟨dx', kd, od, td, ko, kt, e1, _⟩ := id hs
  refine i_self e1 rfl ?_
  walk_at "go"
  refine ⟨x, va, one, other, v, rfl, hs, ho1, ho2, hv, s1 _ _ ev, fun lp us H2 h1 h2 h3 s2 => q lp us H2 h1 (s1.free h2) h3 (s1.trans s2)⟩
end
abbrev s_law_row : Stmt := top 10
theorem sc_law_row : FnScope ["_law_script", "_law_at", "_law_bounds", "_law_cell", "_law_rest", "_law_found", "_law_k", "_law_mixed"] ["_law_script", "_law_at", "_law_bounds"] (defScope s_law_row) := ⟨rfl, rfl, rfl, by decide +kernel, rfl, by decide +kernel, by decide +kernel⟩
abbrev s_law_letters : Stmt := top 11
theorem sc_law_letters : FnScope ["_law_numbers", "_law_letters_here", "_law_step"] ["_law_numbers"] (defScope s_law_letters) := ⟨rfl, rfl, rfl, by decide +kernel, rfl, by decide +kernel, by decide +kernel⟩
abbrev s_law_pattern : Stmt := top 12
theorem sc_law_pattern : FnScope ["_law_script", "_law_at", "_law_letters_here", "_law_told", "_law_signs", "_law_numbers"] ["_law_script", "_law_at", "_law_letters_here"] (defScope s_law_pattern) := ⟨rfl, rfl, rfl, by decide +kernel, rfl, by decide +kernel, by decide +kernel⟩
/-- drawn numbers, each below its bound -/
def spRow (K : PySem.W.Frag) : Sp := fun vs H Q _ => ∃ (a : Addr) (ns : List Int) (k : Nat) (b : Addr) (bs : List Int), vs = [.ref a, .int (k : Int), .ref b] ∧ SqL K H a (ns.map V.int) ∧ k < 1000 ∧ H b = some (.lst (bs.map V.int)) ∧ bs.length ≤ 100 ∧ (∀ x ∈ bs, 0 < x ∧ x < 1000000) ∧
  ∀ (r : Addr) (ds : List Int) (H' : Hp), H r = none → H' r = some (.lst (ds.map V.int)) → ds.length = bs.length → (∀ (j : Nat) d c, ds[j]? = some d → bs[j]? = some c → 0 ≤ d ∧ d < c) → Same H H' → Q (.ref r) H'
/-- letters, one by one -/
def lets (l : List Nat) : List V := l.map fun c => V.str (S [c])
/-- three to five letters -/
def spLets : Sp := fun vs H Q _ => ∃ (a : Addr) (x y z : Int), vs = [.ref a] ∧ H a = some (.lst [.int x, .int y, .int z]) ∧ 0 ≤ x ∧ x < 26 ∧ 0 ≤ y ∧ y < 6 ∧ 0 ≤ z ∧ z < 3 ∧
  ∀ (r : Addr) (l : List Nat) (H' : Hp), H r = none → H' r = some (.lst (lets l)) → Low l → 3 ≤ l.length → l.length ≤ 5 → Same H H' → Q (.ref r) H'
/-- a drawn pattern -/
def spPat (K : PySem.W.Frag) : Sp := fun vs H Q _ => ∃ (a : Addr) (ns : List Int) (k : Nat) (b : Addr) (l : List Nat), vs = [.ref a, .int (k : Int), .ref b] ∧ SqL K H a (ns.map V.int) ∧ k < 1000 ∧ H b = some (.lst (lets l)) ∧ Low l ∧ 1 ≤ l.length ∧ l.length ≤ 26 ∧
  ∀ (v : V) (x : Pat) (H' : Hp), Is H' v (patD x) → GP x → x.1.length ≤ 6 → Same H H' → Q v H'
theorem Low_lt {l : List Nat} (h : Low l) : ∀ c ∈ l, c < 128 := fun c hc => by
  have := h c hc
  unfold isLow at this
  simp at this
  omega
section
variable {P : Program} {w : World} {K : PySem.W.Frag} {mg : Str → Option Value} {base : Heap} {f : Addr} {fd : FuncData} {tk : Nat → Tok}
theorem ok_law_row (T : Txt mg tk) (F : Fun K "_law_row" "_law_row" s_law_row f fd) : FnOk P w K mg base CX0 1 f fd ["_law_script", "_law_at", "_law_bounds"] (spRow K) := by
  refine F.ok sc_law_row (fun vs H Q E h => ?_) (fun cdv A outer s H vs Q E hr h => ?_)
  · obtain ⟨a, ns, k, b, bs, rfl, _⟩ := h
    rfl
  obtain ⟨a, ns, k, b, bs, rfl, hS, hk, hb, hbl, hbs, q⟩ := h
  have nd := sc_law_row.nd
  refine ⟨_, (pss_cons (ps_set (i := 3) nd rfl (Or.inl rfl) pe_int)
    (pss_cons (ps_if (pt_cmpR o_lt (pv 1) (pe_callB (c_len (K := K)) rfl T.z_len (by decide +kernel) (pa_cons (pv 0) pa_nil)) (nomark _))
     (pss_one (ps_set (i := 3) nd rfl (Or.inl rfl) (pe_ix (ix_any (K := K)) (pv 0) (pv 1) (fun _ _ => rfl))))
     pss_nil)
    (pss_cons (ps_set (i := 4) nd rfl (Or.inl rfl) (pe_op o_sub (pv 3) (pe_op o_pow pe_int pe_int)))
    (pss_cons (ps_set (i := 5) nd rfl (Or.inl rfl) (pe_lst pa_nil))
    (pss_cons (ps_for PassesOwn.never rfl (pi_range1 rfl T.z_range (pa_cons (pe_callB (c_len (K := K)) rfl T.z_len (by decide +kernel) (pa_cons (pv 2) pa_nil)) pa_nil)) (pg_name (i := 6) nd rfl (Or.inl rfl))
     (pss_one (ps_if (pt_cmpR o_ge (pv 3) (pe_op o_pow pe_int pe_int) (nomark _))
     (pss_cons (ps_expr (pe_bmK (K := K) PySem.F.plainAttrs_list PySem.F.slot_list_append PySem.F.type_list_append m_append1 (pv 5) (pa_cons (pe_op o_mod (pv 4) (pe_ix (ix_any (K := K)) (pv 2) (pv 6) (fun _ _ => rfl))) pa_nil)))
    (pss_one (ps_set (i := 4) nd rfl (Or.inl rfl) (pe_op o_fdiv (pv 4) (pe_ix (ix_any (K := K)) (pv 2) (pv 6) (fun _ _ => rfl))))))
     (pss_cons (ps_set (i := 7) nd rfl (Or.inl rfl) (pe_op o_add (pe_op o_add (pe_op o_mul (pe_op o_add (pe_op o_mod (pv 3) pe_int) pe_int) pe_int) (pe_op o_mul (pe_op o_mul (pe_op o_add (pv 6) pe_int) (pe_op o_add (pv 6) pe_int)) pe_int)) (pe_op o_mul (pv 1) pe_int)))
    (pss_cons (ps_set (i := 7) nd rfl (Or.inl rfl) (pe_op o_fdiv (pe_op o_mod (pe_op o_mul (pe_op o_mod (pv 7) pe_int) pe_int) pe_int) pe_int))
    (pss_one (ps_expr (pe_bmK (K := K) PySem.F.plainAttrs_list PySem.F.slot_list_append PySem.F.type_list_append m_append1 (pv 5) (pa_cons (pe_op o_mod (pe_op o_mul (pv 7) (pe_op o_pow pe_int pe_int)) (pe_ix (ix_any (K := K)) (pv 2) (pv 6) (fun _ _ => rfl))) pa_nil)))))))))
    (pss_one (ps_ret (pv 5)))))))), ?_⟩
  rw [show L2.start ["_law_script", "_law_at", "_law_bounds", "_law_cell", "_law_rest", "_law_found", "_law_k", "_law_mixed"] [.ref a, .int (k : Int), .ref b] = [some (.ref a), some (.int (k : Int)), some (.ref b), none, none, none, none, none] from rfl]
  have hlen : (ns.map V.int).length = ns.length := List.length_map _
  have hlen2 : (bs.map V.int).length = bs.length := List.length_map _
  walk_at "go"
  refine iteD (fun c => ?_) (fun c => ?_)
  · rw [hlen] at c
    have hix : k < ns.length := by omega
    walk_at "go"
    refine i_ixK (v := .int ns[k]) hS ?_ ?_
    · exact atI_of (by omega) (by rw [List.getElem?_map, show ((k : Int)).toNat = k by omega, List.getElem?_eq_getElem hix]; rfl)
    walk_at "go"
    intro r hr0
    have s1 := same_new hr0 (.lst [])
    have hb1 := s1 _ _ hb
    walk_at "go"
    rw [hlen2]
    walk_at "go"
    refine for_range (fun i σ H' => ∃ (cell rest : Int) (v6 v7 : Option V) (ds : List Int), σ = [some (.ref a), some (.int (k : Int)), some (.ref b), some (.int cell), some (.int rest), some (.ref r), v6, v7] ∧ ds.length = i ∧ (∀ (j : Nat) d c, ds[j]? = some d → bs[j]? = some c → 0 ≤ d ∧ d < c) ∧ H' r = some (.lst (ds.map V.int)) ∧ Same H H')
      ⟨_, _, none, none, [], rfl, rfl, (fun j d c e => by simp at e), upd_same, s1⟩ ?_ ?_
    · rintro i σ H1 hi ⟨cell, rest, v6, v7, ds, rfl, hdl, hds, e1, s2⟩
      have hil : i < bs.length := by omega
      have hb2 := s2 _ _ hb
      obtain ⟨hc0, hc1⟩ := hbs _ (List.getElem_mem hil)
      have hdl2 : (ds.map V.int).length < 1000000 := by rw [List.length_map]; omega
      have hbi : atI (bs.map V.int) (0 + (i : Int)) = some (.int bs[i]) := atI_of (by omega) (by rw [show (0 + (i : Int)).toNat = i by omega, List.getElem?_map, List.getElem?_eq_getElem hil]; rfl)
      have hbe : bs[i]? = some bs[i] := List.getElem?_eq_getElem hil
      generalize bs[i] = m at hc0 hc1 hbi hbe
      have key : ∀ d : Int, 0 ≤ d → d < m → (∀ (j : Nat) d' c, (ds ++ [d])[j]? = some d' → bs[j]? = some c → 0 ≤ d' ∧ d' < c) ∧ (ds ++ [d]).length = i + 1 ∧ (upd H1 r (.lst (ds.map V.int ++ [.int d]))) r = some (.lst ((ds ++ [d]).map V.int)) ∧ Same H (upd H1 r (.lst (ds.map V.int ++ [.int d]))) := fun d h0 h1 => by
        refine ⟨fun j d' c e ec => ?_, by simp [hdl], by rw [upd_same, List.map_append]; rfl, fun b' o e => ?_⟩
        · by_cases hj : j < ds.length
          · rw [List.getElem?_append_left hj] at e
            exact hds j d' c e ec
          · have hj2 : j = ds.length := by
              have := (List.getElem?_eq_some_iff.mp e).1
              simp at this; omega
            subst hj2
            rw [List.getElem?_append_right (Nat.le_refl _), Nat.sub_self] at e
            simp only [List.getElem?_cons_zero, Option.some.injEq] at e
            rw [hdl, hbe] at ec
            cases ec
            subst e
            exact ⟨h0, h1⟩
        · have hbr : b' ≠ r := fun z => by rw [z, hr0] at e; cases e
          rw [upd_ne hbr]; exact s2 b' o e
      have hcd : CDiv rest m := ⟨hc0, by omega⟩
      have fin : ∀ d : Int, 0 ≤ d → d < m → ∀ (cell rest : Int) (v6 v7 : Option V), ∃ (cell' rest' : Int) (v6' v7' : Option V) (ds' : List Int), [some (V.ref a), some (.int (k : Int)), some (.ref b), some (.int cell), some (.int rest), some (.ref r), v6, v7] = [some (V.ref a), some (.int (k : Int)), some (.ref b), some (.int cell'), some (.int rest'), some (.ref r), v6', v7'] ∧ ds'.length = i + 1 ∧ (∀ (j : Nat) d c, ds'[j]? = some d → bs[j]? = some c → 0 ≤ d ∧ d < c) ∧ (upd H1 r (.lst (ds.map V.int ++ [.int d]))) r = some (.lst (ds'.map V.int)) ∧ Same H (upd H1 r (.lst (ds.map V.int ++ [.int d]))) := fun d h0 h1 cell rest v6 v7 => by
        obtain ⟨k1, k2, k3, k4⟩ := key d h0 h1
        exact ⟨cell, rest, v6, v7, ds ++ [d], rfl, k2, k1, k3, k4⟩
      walk_at "go"
      refine iteD (fun c => ?_) (fun c => ?_)
      · walk_at "go"
        have hb3 := (key (rest % m) (Int.emod_nonneg _ (by omega)) (Int.emod_lt_of_pos _ hc0)).2.2.2 _ _ hb
        walk_at "go"
        exact fin _ (Int.emod_nonneg _ (by omega)) (Int.emod_lt_of_pos _ hc0) _ _ _ _
      · walk_at "go"
        exact fin _ (Int.emod_nonneg _ (by omega)) (Int.emod_lt_of_pos _ hc0) _ _ _ _
    · rintro σ H1 ⟨cell, rest, v6, v7, ds, rfl, hdl, hds, e1, s2⟩
      walk_at "go"
      exact q r ds H1 hr0 e1 (by omega) hds s2
  · skip
    walk_at "go"
    intro r hr0
    have s1 := same_new hr0 (.lst [])
    have hb1 := s1 _ _ hb
    walk_at "go"
    rw [hlen2]
    walk_at "go"
    refine for_range (fun i σ H' => ∃ (cell rest : Int) (v6 v7 : Option V) (ds : List Int), σ = [some (.ref a), some (.int (k : Int)), some (.ref b), some (.int cell), some (.int rest), some (.ref r), v6, v7] ∧ ds.length = i ∧ (∀ (j : Nat) d c, ds[j]? = some d → bs[j]? = some c → 0 ≤ d ∧ d < c) ∧ H' r = some (.lst (ds.map V.int)) ∧ Same H H')
      ⟨_, _, none, none, [], rfl, rfl, (fun j d c e => by simp at e), upd_same, s1⟩ ?_ ?_
    · rintro i σ H1 hi ⟨cell, rest, v6, v7, ds, rfl, hdl, hds, e1, s2⟩
      have hil : i < bs.length := by omega
      have hb2 := s2 _ _ hb
      obtain ⟨hc0, hc1⟩ := hbs _ (List.getElem_mem hil)
      have hdl2 : (ds.map V.int).length < 1000000 := by rw [List.length_map]; omega
      have hbi : atI (bs.map V.int) (0 + (i : Int)) = some (.int bs[i]) := atI_of (by omega) (by rw [show (0 + (i : Int)).toNat = i by omega, List.getElem?_map, List.getElem?_eq_getElem hil]; rfl)
      have hbe : bs[i]? = some bs[i] := List.getElem?_eq_getElem hil
      generalize bs[i] = m at hc0 hc1 hbi hbe
      have key : ∀ d : Int, 0 ≤ d → d < m → (∀ (j : Nat) d' c, (ds ++ [d])[j]? = some d' → bs[j]? = some c → 0 ≤ d' ∧ d' < c) ∧ (ds ++ [d]).length = i + 1 ∧ (upd H1 r (.lst (ds.map V.int ++ [.int d]))) r = some (.lst ((ds ++ [d]).map V.int)) ∧ Same H (upd H1 r (.lst (ds.map V.int ++ [.int d]))) := fun d h0 h1 => by
        refine ⟨fun j d' c e ec => ?_, by simp [hdl], by rw [upd_same, List.map_append]; rfl, fun b' o e => ?_⟩
        · by_cases hj : j < ds.length
          · rw [List.getElem?_append_left hj] at e
            exact hds j d' c e ec
          · have hj2 : j = ds.length := by
              have := (List.getElem?_eq_some_iff.mp e).1
              simp at this; omega
            subst hj2
            rw [List.getElem?_append_right (Nat.le_refl _), Nat.sub_self] at e
            simp only [List.getElem?_cons_zero, Option.some.injEq] at e
            rw [hdl, hbe] at ec
            cases ec
            subst e
            exact ⟨h0, h1⟩
        · have hbr : b' ≠ r := fun z => by rw [z, hr0] at e; cases e
          rw [upd_ne hbr]; exact s2 b' o e
      have hcd : CDiv rest m := ⟨hc0, by omega⟩
      have fin : ∀ d : Int, 0 ≤ d → d < m → ∀ (cell rest : Int) (v6 v7 : Option V), ∃ (cell' rest' : Int) (v6' v7' : Option V) (ds' : List Int), [some (V.ref a), some (.int (k : Int)), some (.ref b), some (.int cell), some (.int rest), some (.ref r), v6, v7] = [some (V.ref a), some (.int (k : Int)), some (.ref b), some (.int cell'), some (.int rest'), some (.ref r), v6', v7'] ∧ ds'.length = i + 1 ∧ (∀ (j : Nat) d c, ds'[j]? = some d → bs[j]? = some c → 0 ≤ d ∧ d < c) ∧ (upd H1 r (.lst (ds.map V.int ++ [.int d]))) r = some (.lst (ds'.map V.int)) ∧ Same H (upd H1 r (.lst (ds.map V.int ++ [.int d]))) := fun d h0 h1 cell rest v6 v7 => by
        obtain ⟨k1, k2, k3, k4⟩ := key d h0 h1
        exact ⟨cell, rest, v6, v7, ds ++ [d], rfl, k2, k1, k3, k4⟩
      walk_at "go"
      refine iteD (fun c => ?_) (fun c => ?_)
      · walk_at "go"
        have hb3 := (key (rest % m) (Int.emod_nonneg _ (by omega)) (Int.emod_lt_of_pos _ hc0)).2.2.2 _ _ hb
        walk_at "go"
        exact fin _ (Int.emod_nonneg _ (by omega)) (Int.emod_lt_of_pos _ hc0) _ _ _ _
      · walk_at "go"
        exact fin _ (Int.emod_nonneg _ (by omega)) (Int.emod_lt_of_pos _ hc0) _ _ _ _
    · rintro σ H1 ⟨cell, rest, v6, v7, ds, rfl, hdl, hds, e1, s2⟩
      walk_at "go"
      exact q r ds H1 hr0 e1 (by omega) hds s2
theorem ok_law_letters (T : Txt mg tk) (F : Fun K "_law_letters" "_law_letters" s_law_letters f fd) : FnOk P w K mg base CX0 1 f fd ["_law_numbers"] spLets := by
  refine F.ok sc_law_letters (fun vs H Q E h => ?_) (fun cdv A outer s H vs Q E hr h => ?_)
  · obtain ⟨a, x, y, z, rfl, _⟩ := h
    rfl
  obtain ⟨a, x, y, z, rfl, ha, hx0, hx1, hy0, hy1, hz0, hz1, q⟩ := h
  have nd := sc_law_letters.nd
  refine ⟨_, (pss_cons (ps_set (i := 1) nd rfl (Or.inr rfl) pe_str)
    (pss_cons (ps_set (i := 2) nd rfl (Or.inr rfl) (pe_ix (ix_any (K := K)) (pe_lst (pa_cons pe_int (pa_cons pe_int (pa_cons pe_int (pa_cons pe_int (pa_cons pe_int (pa_cons pe_int pa_nil))))))) (pe_ix (ix_any (K := K)) (pv 0) pe_int (fun _ _ => rfl)) (fun _ _ => rfl)))
    (pss_one (ps_ret (pe_comp ["_law_letters_here", "_law_numbers", "_law_step", "_law_k"] [some 1, some 0, some 2, none] rfl (by kernel_rfl) rfl (pi_range1 rfl T.z_range (pa_cons (pe_op o_add pe_int (pe_ix (ix_any (K := K)) (pv 0) pe_int (fun _ _ => rfl))) pa_nil)) (fun _ _ _ _ => (pg_name (i := 3) (show (["_law_letters_here", "_law_numbers", "_law_step", "_law_k"] : List Str).Nodup by decide +kernel) rfl (Or.inl rfl) (Or.inr rfl))) (fun _ _ _ _ => pts_nil) (fun _ _ _ _ => (pe_ix (ix_any (K := K)) (pv 0) (pe_op o_mod (pe_op o_add (pe_ix (ix_any (K := K)) (pv 1) pe_int (fun _ _ => rfl)) (pe_op o_mul (pv 2) (pv 3))) pe_int) (fun _ _ => rfl)))))))), ?_⟩
  rw [show L2.start ["_law_numbers", "_law_letters_here", "_law_step"] [.ref a] = [some (.ref a), none, none] from rfl]
  rw [t_let]
  walk_at "go"
  intro b hb0
  have s1 := same_new hb0 (.lst [.int 1, .int 3, .int 5, .int 7, .int 9, .int 11])
  have e1 := upd_same (H := H) (a := b) (o := .lst [.int 1, .int 3, .int 5, .int 7, .int 9, .int 11])
  generalize upd H b (.lst [.int 1, .int 3, .int 5, .int 7, .int 9, .int 11]) = H1 at s1 e1 ⊢
  have ha1 := s1 _ _ ha
  walk_at "go"
  obtain ⟨st, hst, hst1, hst2⟩ : ∃ st : Int, atI [V.int 1, V.int 3, V.int 5, V.int 7, V.int 9, V.int 11] y = some (.int st) ∧ 1 ≤ st ∧ st ≤ 11 := by
    have : y = 0 ∨ y = 1 ∨ y = 2 ∨ y = 3 ∨ y = 4 ∨ y = 5 := by omega
    rcases this with rfl | rfl | rfl | rfl | rfl | rfl
    · exact ⟨1, by decide +kernel, by decide, by decide⟩
    · exact ⟨3, by decide +kernel, by decide, by decide⟩
    · exact ⟨5, by decide +kernel, by decide, by decide⟩
    · exact ⟨7, by decide +kernel, by decide, by decide⟩
    · exact ⟨9, by decide +kernel, by decide, by decide⟩
    · exact ⟨11, by decide +kernel, by decide, by decide⟩
  refine i_ixR (seqR_lst e1) hst ?_
  walk_at "go"
  intro r hr0
  refine comp_range (fun i acc σ H' => ∃ (v : Option V) (ws : List Nat), σ = [some (.str (S LETL)), some (.ref a), some (.int st), v] ∧ acc = lets ws ∧ ws.length = i ∧ Low ws ∧ Same H H' ∧ H' r = some (.lst acc))
    ⟨none, [], rfl, rfl, rfl, (fun c hc => nomatch hc), s1.trans (same_new hr0 _), upd_same⟩ (fun i acc σ H' ⟨_, ws, _, e, e1, _, _, e2⟩ => ⟨e2, by rw [e, lets, List.length_map]; omega⟩) (szn (by omega)) ?_ ?_
  · rintro i acc σ H' hi ⟨v, ws, rfl, rfl, hw1, hw2, s2, e2⟩
    have hll : (S LETL).length ≤ sizeLine := szn (by rw [S_length]; decide)
    have ha2 := s2 _ _ ha
    walk_at "go"
    have hl : LETL.length = 26 := rfl
    have hc0 := Int.emod_nonneg (x + st * (0 + (i : Int))) (show (26 : Int) ≠ 0 by decide)
    have hc1 := Int.emod_lt_of_pos (x + st * (0 + (i : Int))) (show (0 : Int) < 26 by decide)
    generalize (x + st * (0 + (i : Int))) % 26 = c at hc0 hc1 ⊢
    have hcl : c.toNat < LETL.length := by omega
    refine i_ixS (c := LETL[c.toNat]) hll (atI_of hc0 (by rw [S_cps]; simp [hcl])) ?_
    refine ⟨e2, _, ws ++ [LETL[c.toNat]], rfl, by rw [lets, lets, List.map_append]; rfl, by rw [List.length_append, hw1]; rfl, Low_append hw2 (fun x hx => ?_), fun b o e => ?_, upd_same⟩
    · have : x = LETL[c.toNat] := by simpa using hx
      rw [this]
      exact low_LETL _ (List.getElem_mem _)
    · have hbr : b ≠ r := fun z => by
        rw [z] at e
        have := s1 _ _ e
        rw [hr0] at this; cases this
      rw [upd_ne hbr]; exact s2 b o e
  · rintro acc σ H' ⟨v, ws, rfl, rfl, hw1, hw2, s2, e2⟩
    exact q r ws H' (s1.free hr0) e2 hw2 (by omega) (by omega) s2
theorem ok_law_pattern (T : Txt mg tk) (F : Fun K "_law_pattern" "_law_pattern" s_law_pattern f fd) (D_law_row : Dn P w K mg base "_law_row" 1 ["_law_script", "_law_at", "_law_bounds"] (spRow K)) : FnOk P w K mg base CX0 2 f fd ["_law_script", "_law_at", "_law_letters_here"] (spPat K) := by
  refine F.ok sc_law_pattern (fun vs H Q E h => ?_) (fun cdv A outer s H vs Q E hr h => ?_)
  · obtain ⟨a, ns, k, b, l, rfl, _⟩ := h
    rfl
  obtain ⟨a, ns, k, b, l, rfl, hS, hk, hb, hl, hl1, hl2, q⟩ := h
  have nd := sc_law_pattern.nd
  refine ⟨_, (pss_cons (ps_set (i := 3) nd rfl (Or.inr rfl) (pe_callD D_law_row (hr.mono (by first | decide | omega)) rfl (pa_cons (pv 0) (pa_cons (pv 1) (pa_cons (pe_op o_add (pe_op o_add (pe_lst (pa_cons pe_int (pa_cons pe_int pa_nil))) (pe_op o_mul (pe_lst (pa_cons pe_int pa_nil)) pe_int)) (pe_op o_mul (pe_lst (pa_cons pe_int pa_nil)) pe_int)) pa_nil)))))
    (pss_cons (ps_set (i := 4) nd rfl (Or.inl rfl) (pe_bmK (K := K) PySem.F.plainAttrs_str PySem.F.slot_str_join PySem.F.type_str_join m_join1 pe_str (pa_cons (pe_comp ["_law_letters_here", "_law_told", "_law_k"] [some 2, some 3, none] rfl (by kernel_rfl) rfl (pi_range1 rfl T.z_range (pa_cons (pe_op o_add pe_int (pe_ix (ix_any (K := K)) (pv 3) pe_int (fun _ _ => rfl))) pa_nil)) (fun _ _ _ _ => (pg_name (i := 2) (show (["_law_letters_here", "_law_told", "_law_k"] : List Str).Nodup by decide +kernel) rfl (Or.inl rfl) (Or.inr rfl))) (fun _ _ _ _ => pts_nil) (fun _ _ _ _ => (pe_ix (ix_any (K := K)) (pv 0) (pe_op o_mod (pe_ix (ix_any (K := K)) (pv 1) (pe_op o_add pe_int (pv 2)) (fun _ _ => rfl)) (pe_callB (c_len (K := K)) rfl T.z_len (by decide +kernel) (pa_cons (pv 0) pa_nil))) (fun _ _ => rfl)))) pa_nil)))
    (pss_cons (ps_if (pt_cmpR o_in (pe_ix (ix_any (K := K)) (pv 3) pe_int (fun _ _ => rfl)) (pe_tup (pa_cons pe_int (pa_cons pe_int pa_nil))) (by with_unfolding_all rfl))
     (pss_one (ps_set (i := 4) nd rfl (Or.inl rfl) (pe_op o_add pe_str (pv 4))))
     pss_nil)
    (pss_cons (ps_if (pt_cmpR o_in (pe_ix (ix_any (K := K)) (pv 3) pe_int (fun _ _ => rfl)) (pe_tup (pa_cons pe_int (pa_cons pe_int pa_nil))) (by with_unfolding_all rfl))
     (pss_one (ps_set (i := 4) nd rfl (Or.inl rfl) (pe_op o_add (pv 4) pe_str)))
     pss_nil)
    (pss_cons (ps_setC (i := 5) ["_law_number"] [none] rfl (by kernel_rfl) rfl nd rfl rfl (pi_any (K := K) (pe_slice (sl_any (K := K)) (pv 3) (po_some pe_int) (po_some (pe_op o_add pe_int (pe_callB (c_len (K := K)) rfl T.z_len (by decide +kernel) (pa_cons (pv 4) pa_nil)))))) (fun _ _ _ _ => (pg_name (i := 0) (show (["_law_number"] : List Str).Nodup by decide +kernel) rfl (Or.inl rfl) (Or.inr rfl))) (fun _ _ _ _ => pts_nil) (fun _ _ _ _ => (pe_op o_mul (pv 0) (pe_callTy c_int rfl T.z_int (by decide +kernel) (pa_cons (pe_cmpR o_lt (pv 0) pe_int (nomark _)) pa_nil)))))
    (pss_cons (ps_if (pt_cmpR (o_eq hr.units) (pe_ix (ix_any (K := K)) (pv 4) pe_int (fun _ _ => rfl)) pe_str (nomark _))
     (pss_one (ps_asg pe_int (pg_sub (pv 5) pe_int set_l)))
     pss_nil)
    (pss_cons (ps_if (pt_cmpR (o_eq hr.units) (pe_ix (ix_any (K := K)) (pv 4) (pe_un o_neg pe_int) (fun _ _ => rfl)) pe_str (nomark _))
     (pss_one (ps_asg pe_int (pg_sub (pv 5) (pe_un o_neg pe_int) set_l)))
     pss_nil)
    (pss_one (ps_ret (pe_tup (pa_cons (pv 4) (pa_cons (pe_callTy c_tuple rfl T.z_tuple (by decide +kernel) (pa_cons (pv 5) pa_nil)) pa_nil)))))))))))), ?_⟩
  rw [show L2.start ["_law_script", "_law_at", "_law_letters_here", "_law_told", "_law_signs", "_law_numbers"] [.ref a, .int (k : Int), .ref b] = [some (.ref a), some (.int (k : Int)), some (.ref b), none, none, none] from rfl]
  rw [t_empty, t_dot]
  walk_at "go"
  intro p1 h1
  walk_at "go"
  intro p2 h2
  walk_at "go"
  refine i_mulZ upd_same (by decide) fun p3 h3 => ?_
  have e31 : (upd (upd (upd H p1 (.lst [.int 4, .int 8])) p2 (.lst [.int 4])) p3 (.lst (List.replicate (4 : Int).toNat (.int 4)))) p1 = some (.lst [.int 4, .int 8]) := (same_new h3 _) _ _ ((same_new h2 _) _ _ upd_same)
  have s3 := ((same_new h1 (.lst [.int 4, .int 8])).trans (same_new h2 (.lst [.int 4]))).trans (same_new h3 (.lst (List.replicate (4 : Int).toNat (.int 4))))
  walk_at "go"
  refine i_addL e31 upd_same (szn (by decide)) fun p4 h4 => ?_
  have s4 := s3.trans (same_new h4 (.lst ([.int 4, .int 8] ++ List.replicate (4 : Int).toNat (.int 4))))
  have e4 := upd_same (H := upd (upd (upd H p1 (.lst [.int 4, .int 8])) p2 (.lst [.int 4])) p3 (.lst (List.replicate (4 : Int).toNat (.int 4)))) (a := p4) (o := .lst ([.int 4, .int 8] ++ List.replicate (4 : Int).toNat (.int 4)))
  generalize upd (upd (upd (upd H p1 (.lst [.int 4, .int 8])) p2 (.lst [.int 4])) p3 (.lst (List.replicate (4 : Int).toNat (.int 4)))) p4 (.lst ([.int 4, .int 8] ++ List.replicate (4 : Int).toNat (.int 4))) = H4 at s4 e4 ⊢
  walk_at "go"
  intro p5 h5
  walk_at "go"
  refine i_mulZ upd_same (by decide) fun p6 h6 => ?_
  have e64 : (upd (upd H4 p5 (.lst [.int 14])) p6 (.lst (List.replicate (7 : Int).toNat (.int 14)))) p4 = _ := (same_new h6 _) _ _ ((same_new h5 _) _ _ e4)
  have s6 := (s4.trans (same_new h5 (.lst [.int 14]))).trans (same_new h6 (.lst (List.replicate (7 : Int).toNat (.int 14))))
  walk_at "go"
  refine i_addL e64 upd_same (szn (by decide)) fun p7 h7 => ?_
  have s7 := s6.trans (same_new h7 (.lst (([.int 4, .int 8] ++ List.replicate (4 : Int).toNat (.int 4)) ++ List.replicate (7 : Int).toNat (.int 14))))
  have e7 := upd_same (H := upd (upd H4 p5 (.lst [.int 14])) p6 (.lst (List.replicate (7 : Int).toNat (.int 14)))) (a := p7) (o := .lst (([.int 4, .int 8] ++ List.replicate (4 : Int).toNat (.int 4)) ++ List.replicate (7 : Int).toNat (.int 14)))
  generalize upd (upd (upd H4 p5 (.lst [.int 14])) p6 (.lst (List.replicate (7 : Int).toNat (.int 14)))) p7 (.lst (([.int 4, .int 8] ++ List.replicate (4 : Int).toNat (.int 4)) ++ List.replicate (7 : Int).toNat (.int 14))) = H7 at s7 e7 ⊢
  have e7 : H7 p7 = some (.lst ([4, 8, 4, 4, 4, 4, 14, 14, 14, 14, 14, 14, 14].map V.int)) := e7
  clear e64 s6 h6 h5 e4 s4 h4 s3 e31 h3 h2 h1
  walk_at "go"
  refine ⟨a, ns, k, p7, [4, 8, 4, 4, 4, 4, 14, 14, 14, 14, 14, 14, 14], rfl, s7.seq hS, hk, e7, by decide, by decide, fun t ds H1 ht0 et hdl hds s8 => ?_⟩
  have hdl : ds.length = 13 := hdl
  have s1 := s7.trans s8
  have hb1 := s1 _ _ hb
  clear s8 s7 e7 ht0
  have hg : ∀ (j : Nat) (h : j < ds.length), 0 ≤ ds[j] ∧ ds[j] < 14 := fun j h => by
    have hj : j < [4, 8, 4, 4, 4, 4, 14, 14, 14, 14, 14, 14, (14 : Int)].length := by rw [hdl] at h; exact h
    obtain ⟨x1, x2⟩ := hds j ds[j] [4, 8, 4, 4, 4, 4, 14, 14, 14, 14, 14, 14, (14 : Int)][j] (List.getElem?_eq_getElem h) (List.getElem?_eq_getElem hj)
    have : ∀ j (h : j < [4, 8, 4, 4, 4, 4, 14, 14, 14, 14, 14, 14, (14 : Int)].length), [4, 8, 4, 4, 4, 4, 14, 14, 14, 14, 14, 14, (14 : Int)][j] ≤ 14 := by decide
    have := this j hj
    exact ⟨x1, by omega⟩
  obtain ⟨hd0, hd1⟩ := hds 0 (ds[0]'(by omega)) 4 (List.getElem?_eq_getElem _) rfl
  have ad0 : atI (ds.map V.int) 0 = some (.int (ds[0]'(by omega))) := atI_of (by decide) (by rw [List.getElem?_map]; show Option.map V.int ds[0]? = _; rw [List.getElem?_eq_getElem (by omega)]; rfl)
  have ad1 : atI (ds.map V.int) 1 = some (.int (ds[1]'(by omega))) := atI_of (by decide) (by rw [List.getElem?_map]; show Option.map V.int ds[1]? = _; rw [List.getElem?_eq_getElem (by omega)]; rfl)
  generalize (ds[0]'(by omega)) = d0 at hd0 hd1 ad0
  generalize (ds[1]'(by omega)) = d1 at ad1
  walk_at "go"
  intro r hr0
  have hll : (lets l).length = l.length := by rw [lets, List.length_map]
  refine comp_range (fun i acc σ H' => ∃ (v : Option V) (ws : List Nat), σ = [some (.ref b), some (.ref t), v] ∧ acc = lets ws ∧ ws.length = i ∧ Low ws ∧ Same H1 H' ∧ H' r = some (.lst acc))
    ⟨none, [], rfl, rfl, rfl, (fun c hc => nomatch hc), same_new hr0 _, upd_same⟩ (fun i acc σ H' ⟨_, ws, _, e, e1, _, _, e2⟩ => ⟨e2, by rw [e, lets, List.length_map]; omega⟩) (szn (by omega)) ?_ ?_
  · rintro i acc σ H' hi ⟨v, ws, rfl, rfl, hw1, hw2, s2, e2⟩
    have hb2 := s2 _ _ hb1
    have et2 := s2 _ _ et
    have hjl : 2 + i < ds.length := by omega
    obtain ⟨hx0, hx1⟩ := hg (2 + i) hjl
    have adx : atI (ds.map V.int) (2 + (0 + (i : Int))) = some (.int ds[2 + i]) := atI_of (by omega) (by rw [show (2 + (0 + (i : Int))).toNat = 2 + i by omega, List.getElem?_map, List.getElem?_eq_getElem hjl]; rfl)
    generalize ds[2 + i] = dx at hx0 hx1 adx
    walk_at "go"
    rw [hll]
    have hc0 := Int.emod_nonneg dx (show (l.length : Int) ≠ 0 by omega)
    have hc1 := Int.emod_lt_of_pos dx (show (0 : Int) < (l.length : Int) by omega)
    generalize dx % (l.length : Int) = c at hc0 hc1 ⊢
    have hcl : c.toNat < l.length := by omega
    refine i_ixR (v := .str (S [l[c.toNat]])) (seqR_lst hb2) (atI_of hc0 (by rw [lets, List.getElem?_map, List.getElem?_eq_getElem hcl]; rfl)) ?_
    refine ⟨e2, _, ws ++ [l[c.toNat]], rfl, by rw [lets, lets, List.map_append]; rfl, by rw [List.length_append, hw1]; rfl, Low_append hw2 (fun x hx => ?_), fun b o e => ?_, upd_same⟩
    · have : x = l[c.toNat] := by simpa using hx
      rw [this]
      exact hl _ (List.getElem_mem _)
    · have hbr : b ≠ r := fun z => by rw [z, hr0] at e; cases e
      rw [upd_ne hbr]; exact s2 b o e
  · rintro acc σ H2 ⟨v, ws, rfl, rfl, hw1, hw2, s2, e2⟩
    have et2 := s2 _ _ et
    walk_at "go"
    have hs := sum_one ws
    refine i_join (ys := ws.map fun c => S [c]) (by rw [← map_one]; exact lstR_of e2) ?_ ?_
    · rw [hs, List.length_map, S_length]
      simp only [List.length_nil, Nat.mul_zero]
      omega
    rw [joined_one]
    have hws : 1 ≤ ws.length ∧ ws.length ≤ 4 := by omega
    have hwc := Low_lt hw2
    have s12 := s1.trans s2
    clear hs e2 hw1 hr0 s2
    walk_at "go"
    intro c1 hc1
    have s3 := same_new hc1 (.tup [.int 1, .int 3])
    have et3 := s3 _ _ et2
    refine i_inR (seqR_tup upd_same) ⟨rfl, rfl⟩ ?_
    have s13 := s12.trans s3
    generalize upd H2 c1 (.tup [.int 1, .int 3]) = H3 at s3 et3 s13 ⊢
    walk_at "go"
    refine iteB (fun q1 => ?_) (fun q1 => ?_)
    · walk_at "go"
      have hw' : 1 ≤ ([46] ++ ws).length ∧ ([46] ++ ws).length ≤ 5 := by simp only [List.length_append, List.length_cons, List.length_nil]; omega
      have hwc' : ∀ c ∈ [46] ++ ws, c < 128 := fun c hc => by
        rcases List.mem_append.mp hc with h | h
        · have : c = 46 := by simpa using h
          omega
        · exact hwc c h
      generalize [46] ++ ws = w1 at hw' hwc' ⊢
      intro c2 hc2
      have s4 := same_new hc2 (.tup [.int 2, .int 3])
      have et4 := s4 _ _ et3
      refine i_inR (seqR_tup upd_same) ⟨rfl, rfl⟩ ?_
      have s14 := s13.trans s4
      generalize upd H3 c2 (.tup [.int 2, .int 3]) = H4 at s4 et4 s14 ⊢
      walk_at "go"
      refine iteB (fun q2 => ?_) (fun q2 => ?_)
      · walk_at "go"
        have hw2' : 1 ≤ (w1 ++ [46]).length ∧ (w1 ++ [46]).length ≤ 6 := by simp only [List.length_append, List.length_cons, List.length_nil]; omega
        have hwc2 : ∀ c ∈ w1 ++ [46], c < 128 := fun c hc => by
          rcases List.mem_append.mp hc with h | h
          · exact hwc' c h
          · have : c = 46 := by simpa using h
            omega
        generalize w1 ++ [46] = w2 at hw2' hwc2 ⊢
        refine i_slL (SqL.of et4) fun g hg0 => ?_
        rw [cutV_eq, cutA_map]
        have hcl := cut_length ds (some 6) (some (7 + (w2.length : Int)))
        have hx1 : sx ds.length 0 (some 6) = 6 := by simp only [sx]; rw [if_neg (by decide)]; show min 6 ds.length = 6; omega
        have hx2 : sx ds.length ds.length (some (7 + (w2.length : Int))) = 7 + w2.length := by simp only [sx]; rw [if_neg (by omega)]; omega
        rw [hx1, hx2] at hcl
        have hcm : ∀ v ∈ cutA ds (some 6) (some (7 + (w2.length : Int))), 0 ≤ v ∧ v < 14 := fun v hv => by
          have := List.mem_of_mem_drop (List.mem_of_mem_take hv)
          obtain ⟨j, hj, rfl⟩ := List.mem_iff_getElem.mp this
          exact hg j hj
        generalize cutA ds (some 6) (some (7 + (w2.length : Int))) = cs at hcl hcm ⊢
        have s5 := same_new hg0 (.lst (cs.map V.int))
        have e5 := upd_same (H := H4) (a := g) (o := .lst (cs.map V.int))
        have s15 := s14.trans s5
        generalize upd H4 g (.lst (cs.map V.int)) = H5 at s5 e5 s15 ⊢
        walk_at "go"
        intro n hn0
        refine comp_list (K := K) (xs := cs.map V.int) (fun j acc σ H' => ∃ (v : Option V) (us : List Int), σ = [v] ∧ acc = us.map V.int ∧ us.length = j ∧ (∀ u ∈ us, 0 ≤ u ∧ u ≤ 9) ∧ H' n = some (.lst acc) ∧ Same H5 H')
          (fun j acc σ H' _ ⟨_, _, _, _, _, _, _, s3⟩ => SqL.of (s3 _ _ e5)) ⟨none, [], rfl, rfl, rfl, (fun u hu => nomatch hu), upd_same, same_new hn0 _⟩ (fun j acc σ H' ⟨_, us, _, e, e1, _, e3, _⟩ => ⟨e3, by rw [e, List.length_map]; omega⟩) (szn (by rw [List.length_map]; omega)) ?_ ?_
        · rintro j acc σ H6 hj ⟨v, us, rfl, rfl, hul, hus, e6, s6⟩
          have hj' : j < cs.length := by simpa using hj
          have hgd : (cs.map V.int).getD j .non = V.int cs[j] := by
            rw [List.getD_eq_getElem?_getD, List.getElem?_map, List.getElem?_eq_getElem hj']; rfl
          rw [hgd]
          obtain ⟨hu0, hu1⟩ := hcm _ (List.getElem_mem hj')
          generalize cs[j] = u at hu0 hu1 ⊢
          have hmu : CMul u (if decide (u < 10) = true then 1 else 0) := CMul.l (by omega) (by omega)
          walk_at "go"
          try refine i_mulI hmu ?_
          refine ⟨e6, _, us ++ [u * (if decide (u < 10) = true then 1 else 0)], rfl, by rw [List.map_append]; rfl, by simp [hul], fun x hx => ?_, upd_same, fun b' o e => ?_⟩
          · rcases List.mem_append.mp hx with h | h
            · exact hus x h
            · have : x = u * (if decide (u < 10) = true then 1 else 0) := by simpa using h
              rw [this]
              by_cases hu : u < 10
              · rw [if_pos (decide_eq_true hu)]; omega
              · rw [if_neg (by simp [hu])]; omega
          · have hbr : b' ≠ n := fun z => by rw [z, hn0] at e; cases e
            rw [upd_ne hbr]; exact s6 b' o e
        · rintro acc σ H6 ⟨v, us, rfl, rfl, hul, hus, e6, s6⟩
          have hul : us.length = w2.length + 1 := by rw [hul, List.length_map, hcl]; omega
          have s16 := s15.trans s6
          have hnH : H n = none := s15.free hn0
          clear e5 s5 s6 s15 hn0 hcm hcl et4 et3 et2 s14 s13 s12 s4 s3
          have fin : ∀ (us' : List Int) (H7 : Hp), us'.length = w2.length + 1 → (∀ u ∈ us', 0 ≤ u ∧ u ≤ 9) → Same H H7 → H7 n = some (.lst (us'.map V.int)) → ∀ (t' : Addr) (H8 : Hp), H8 t' = some (.tup (us'.map V.int)) → Same H7 H8 → ∀ p, H8 p = none → Q (.ref p) (upd H8 p (.tup [.str (S w2), .ref t'])) := fun us' H7 h1 h2 h3 h4 t' H8 h5 h6 p hp =>
            q _ (w2, us') _ (isPat_mk upd_same ((same_new hp _) _ _ h5)) ⟨hw2'.1, by show w2.length ≤ 22; omega, h1, h2, hwc2⟩ hw2'.2 ((h3.trans h6).trans (same_new hp _))
          have hset : ∀ (us' : List Int) (j : Nat), (∀ u ∈ us', 0 ≤ u ∧ u ≤ 9) → ∀ u ∈ us'.set j 0, 0 ≤ u ∧ u ≤ 9 := fun us' j h u hu => by
            rcases List.mem_or_eq_of_mem_set hu with h' | h'
            · exact h u h'
            · subst h'; decide
          have hup : ∀ (H7 : Hp) (o : HO), Same H H7 → Same H (upd H7 n o) := fun H7 o h b' o' e => by
            have hbn : b' ≠ n := fun z => by rw [z, hnH] at e; cases e
            rw [upd_ne hbn]; exact h b' o' e
          have hlw : (S w2).length ≤ sizeLine := szn (by rw [S_length]; omega)
          have hlast : atI (S w2).cps.toList (-1) = some (w2[w2.length - 1]'(by omega)) := by
            unfold atI ixN
            rw [S_cps, if_neg (by decide), if_pos (by omega)]
            show w2[(-1 + (w2.length : Int)).toNat]? = _
            rw [show (-1 + (w2.length : Int)).toNat = w2.length - 1 by omega, List.getElem?_eq_getElem]
          have hset1 : ∀ us' : List Int, us'.length = w2.length + 1 → ixN (us'.map V.int).length (-1) = some w2.length := fun us' h => by
            unfold ixN
            rw [List.length_map, if_neg (by decide), if_pos (by omega)]
            congr 1; omega
          walk_at "go"
          refine i_ixS (c := w2[0]'(by omega)) hlw (atI_of (by decide) (by rw [S_cps]; show w2[0]? = _; rw [List.getElem?_eq_getElem])) ?_
          walk_at "go"
          refine iteD (fun q3 => ?_) (fun q3 => ?_)
          · walk_at "go"
            refine i_set (j := 0) e6 (by unfold ixN; rw [List.length_map, if_pos (by decide), if_pos (by omega)]; rfl) ?_
            rw [show (us.map V.int).set 0 (V.int 0) = (us.set 0 0).map V.int from (List.map_set ..).symm]
            have e7 := upd_same (H := H6) (a := n) (o := .lst ((us.set 0 0).map V.int))
            have s17 := hup H6 (.lst ((us.set 0 0).map V.int)) s16
            generalize upd H6 n (.lst ((us.set 0 0).map V.int)) = H7 at e7 s17 ⊢
            walk_at "go"
            refine i_ixS hlw hlast ?_
            walk_at "go"
            refine iteD (fun q4 => ?_) (fun q4 => ?_)
            · walk_at "go"
              refine i_set (j := w2.length) e7 (hset1 _ (by rw [List.length_set]; exact hul)) ?_
              rw [show ((us.set 0 0).map V.int).set w2.length (V.int 0) = ((us.set 0 0).set w2.length 0).map V.int from (List.map_set ..).symm]
              walk_at "go"
              refine i_tupleR (seqR_lst upd_same) fun t' H8 ht' s8 => ?_
              walk_at "go"
              exact fin _ _ (by rw [List.length_set, List.length_set]; exact hul) (hset _ _ (hset _ _ hus)) (hup _ _ s17) upd_same t' H8 ht' s8
            · walk_at "go"
              refine i_tupleR (seqR_lst e7) fun t' H8 ht' s8 => ?_
              walk_at "go"
              exact fin _ _ (by rw [List.length_set]; exact hul) (hset _ _ hus) s17 e7 t' H8 ht' s8
          · walk_at "go"
            refine i_ixS hlw hlast ?_
            walk_at "go"
            refine iteD (fun q4 => ?_) (fun q4 => ?_)
            · walk_at "go"
              refine i_set (j := w2.length) e6 (hset1 _ hul) ?_
              rw [show (us.map V.int).set w2.length (V.int 0) = (us.set w2.length 0).map V.int from (List.map_set ..).symm]
              walk_at "go"
              refine i_tupleR (seqR_lst upd_same) fun t' H8 ht' s8 => ?_
              walk_at "go"
              exact fin _ _ (by rw [List.length_set]; exact hul) (hset _ _ hus) (hup _ _ s16) upd_same t' H8 ht' s8
            · walk_at "go"
              refine i_tupleR (seqR_lst e6) fun t' H8 ht' s8 => ?_
              walk_at "go"
              exact fin _ _ hul hus s16 e6 t' H8 ht' s8
      · walk_at "go"
        have hw2' : 1 ≤ w1.length ∧ w1.length ≤ 6 := by omega
        have hwc2 := hwc'
        generalize w1 = w2 at hw2' hwc2 ⊢
        refine i_slL (SqL.of et4) fun g hg0 => ?_
        rw [cutV_eq, cutA_map]
        have hcl := cut_length ds (some 6) (some (7 + (w2.length : Int)))
        have hx1 : sx ds.length 0 (some 6) = 6 := by simp only [sx]; rw [if_neg (by decide)]; show min 6 ds.length = 6; omega
        have hx2 : sx ds.length ds.length (some (7 + (w2.length : Int))) = 7 + w2.length := by simp only [sx]; rw [if_neg (by omega)]; omega
        rw [hx1, hx2] at hcl
        have hcm : ∀ v ∈ cutA ds (some 6) (some (7 + (w2.length : Int))), 0 ≤ v ∧ v < 14 := fun v hv => by
          have := List.mem_of_mem_drop (List.mem_of_mem_take hv)
          obtain ⟨j, hj, rfl⟩ := List.mem_iff_getElem.mp this
          exact hg j hj
        generalize cutA ds (some 6) (some (7 + (w2.length : Int))) = cs at hcl hcm ⊢
        have s5 := same_new hg0 (.lst (cs.map V.int))
        have e5 := upd_same (H := H4) (a := g) (o := .lst (cs.map V.int))
        have s15 := s14.trans s5
        generalize upd H4 g (.lst (cs.map V.int)) = H5 at s5 e5 s15 ⊢
        walk_at "go"
        intro n hn0
        refine comp_list (K := K) (xs := cs.map V.int) (fun j acc σ H' => ∃ (v : Option V) (us : List Int), σ = [v] ∧ acc = us.map V.int ∧ us.length = j ∧ (∀ u ∈ us, 0 ≤ u ∧ u ≤ 9) ∧ H' n = some (.lst acc) ∧ Same H5 H')
          (fun j acc σ H' _ ⟨_, _, _, _, _, _, _, s3⟩ => SqL.of (s3 _ _ e5)) ⟨none, [], rfl, rfl, rfl, (fun u hu => nomatch hu), upd_same, same_new hn0 _⟩ (fun j acc σ H' ⟨_, us, _, e, e1, _, e3, _⟩ => ⟨e3, by rw [e, List.length_map]; omega⟩) (szn (by rw [List.length_map]; omega)) ?_ ?_
        · rintro j acc σ H6 hj ⟨v, us, rfl, rfl, hul, hus, e6, s6⟩
          have hj' : j < cs.length := by simpa using hj
          have hgd : (cs.map V.int).getD j .non = V.int cs[j] := by
            rw [List.getD_eq_getElem?_getD, List.getElem?_map, List.getElem?_eq_getElem hj']; rfl
          rw [hgd]
          obtain ⟨hu0, hu1⟩ := hcm _ (List.getElem_mem hj')
          generalize cs[j] = u at hu0 hu1 ⊢
          have hmu : CMul u (if decide (u < 10) = true then 1 else 0) := CMul.l (by omega) (by omega)
          walk_at "go"
          try refine i_mulI hmu ?_
          refine ⟨e6, _, us ++ [u * (if decide (u < 10) = true then 1 else 0)], rfl, by rw [List.map_append]; rfl, by simp [hul], fun x hx => ?_, upd_same, fun b' o e => ?_⟩
          · rcases List.mem_append.mp hx with h | h
            · exact hus x h
            · have : x = u * (if decide (u < 10) = true then 1 else 0) := by simpa using h
              rw [this]
              by_cases hu : u < 10
              · rw [if_pos (decide_eq_true hu)]; omega
              · rw [if_neg (by simp [hu])]; omega
          · have hbr : b' ≠ n := fun z => by rw [z, hn0] at e; cases e
            rw [upd_ne hbr]; exact s6 b' o e
        · rintro acc σ H6 ⟨v, us, rfl, rfl, hul, hus, e6, s6⟩
          have hul : us.length = w2.length + 1 := by rw [hul, List.length_map, hcl]; omega
          have s16 := s15.trans s6
          have hnH : H n = none := s15.free hn0
          clear e5 s5 s6 s15 hn0 hcm hcl et4 et3 et2 s14 s13 s12 s4 s3
          have fin : ∀ (us' : List Int) (H7 : Hp), us'.length = w2.length + 1 → (∀ u ∈ us', 0 ≤ u ∧ u ≤ 9) → Same H H7 → H7 n = some (.lst (us'.map V.int)) → ∀ (t' : Addr) (H8 : Hp), H8 t' = some (.tup (us'.map V.int)) → Same H7 H8 → ∀ p, H8 p = none → Q (.ref p) (upd H8 p (.tup [.str (S w2), .ref t'])) := fun us' H7 h1 h2 h3 h4 t' H8 h5 h6 p hp =>
            q _ (w2, us') _ (isPat_mk upd_same ((same_new hp _) _ _ h5)) ⟨hw2'.1, by show w2.length ≤ 22; omega, h1, h2, hwc2⟩ hw2'.2 ((h3.trans h6).trans (same_new hp _))
          have hset : ∀ (us' : List Int) (j : Nat), (∀ u ∈ us', 0 ≤ u ∧ u ≤ 9) → ∀ u ∈ us'.set j 0, 0 ≤ u ∧ u ≤ 9 := fun us' j h u hu => by
            rcases List.mem_or_eq_of_mem_set hu with h' | h'
            · exact h u h'
            · subst h'; decide
          have hup : ∀ (H7 : Hp) (o : HO), Same H H7 → Same H (upd H7 n o) := fun H7 o h b' o' e => by
            have hbn : b' ≠ n := fun z => by rw [z, hnH] at e; cases e
            rw [upd_ne hbn]; exact h b' o' e
          have hlw : (S w2).length ≤ sizeLine := szn (by rw [S_length]; omega)
          have hlast : atI (S w2).cps.toList (-1) = some (w2[w2.length - 1]'(by omega)) := by
            unfold atI ixN
            rw [S_cps, if_neg (by decide), if_pos (by omega)]
            show w2[(-1 + (w2.length : Int)).toNat]? = _
            rw [show (-1 + (w2.length : Int)).toNat = w2.length - 1 by omega, List.getElem?_eq_getElem]
          have hset1 : ∀ us' : List Int, us'.length = w2.length + 1 → ixN (us'.map V.int).length (-1) = some w2.length := fun us' h => by
            unfold ixN
            rw [List.length_map, if_neg (by decide), if_pos (by omega)]
            congr 1; omega
          walk_at "go"
          refine i_ixS (c := w2[0]'(by omega)) hlw (atI_of (by decide) (by rw [S_cps]; show w2[0]? = _; rw [List.getElem?_eq_getElem])) ?_
          walk_at "go"
          refine iteD (fun q3 => ?_) (fun q3 => ?_)
          · walk_at "go"
            refine i_set (j := 0) e6 (by unfold ixN; rw [List.length_map, if_pos (by decide), if_pos (by omega)]; rfl) ?_
            rw [show (us.map V.int).set 0 (V.int 0) = (us.set 0 0).map V.int from (List.map_set ..).symm]
            have e7 := upd_same (H := H6) (a := n) (o := .lst ((us.set 0 0).map V.int))
            have s17 := hup H6 (.lst ((us.set 0 0).map V.int)) s16
            generalize upd H6 n (.lst ((us.set 0 0).map V.int)) = H7 at e7 s17 ⊢
            walk_at "go"
            refine i_ixS hlw hlast ?_
            walk_at "go"
            refine iteD (fun q4 => ?_) (fun q4 => ?_)
            · walk_at "go"
              refine i_set (j := w2.length) e7 (hset1 _ (by rw [List.length_set]; exact hul)) ?_
              rw [show ((us.set 0 0).map V.int).set w2.length (V.int 0) = ((us.set 0 0).set w2.length 0).map V.int from (List.map_set ..).symm]
              walk_at "go"
              refine i_tupleR (seqR_lst upd_same) fun t' H8 ht' s8 => ?_
              walk_at "go"
              exact fin _ _ (by rw [List.length_set, List.length_set]; exact hul) (hset _ _ (hset _ _ hus)) (hup _ _ s17) upd_same t' H8 ht' s8
            · walk_at "go"
              refine i_tupleR (seqR_lst e7) fun t' H8 ht' s8 => ?_
              walk_at "go"
              exact fin _ _ (by rw [List.length_set]; exact hul) (hset _ _ hus) s17 e7 t' H8 ht' s8
          · walk_at "go"
            refine i_ixS hlw hlast ?_
            walk_at "go"
            refine iteD (fun q4 => ?_) (fun q4 => ?_)
            · walk_at "go"
              refine i_set (j := w2.length) e6 (hset1 _ hul) ?_
              rw [show (us.map V.int).set w2.length (V.int 0) = (us.set w2.length 0).map V.int from (List.map_set ..).symm]
              walk_at "go"
              refine i_tupleR (seqR_lst upd_same) fun t' H8 ht' s8 => ?_
              walk_at "go"
              exact fin _ _ (by rw [List.length_set]; exact hul) (hset _ _ hus) (hup _ _ s16) upd_same t' H8 ht' s8
            · walk_at "go"
              refine i_tupleR (seqR_lst e6) fun t' H8 ht' s8 => ?_
              walk_at "go"
              exact fin _ _ hul hus s16 e6 t' H8 ht' s8
    · walk_at "go"
      have hw' : 1 ≤ ws.length ∧ ws.length ≤ 5 := by omega
      have hwc' := hwc
      generalize ws = w1 at hw' hwc' ⊢
      intro c2 hc2
      have s4 := same_new hc2 (.tup [.int 2, .int 3])
      have et4 := s4 _ _ et3
      refine i_inR (seqR_tup upd_same) ⟨rfl, rfl⟩ ?_
      have s14 := s13.trans s4
      generalize upd H3 c2 (.tup [.int 2, .int 3]) = H4 at s4 et4 s14 ⊢
      walk_at "go"
      refine iteB (fun q2 => ?_) (fun q2 => ?_)
      · walk_at "go"
        have hw2' : 1 ≤ (w1 ++ [46]).length ∧ (w1 ++ [46]).length ≤ 6 := by simp only [List.length_append, List.length_cons, List.length_nil]; omega
        have hwc2 : ∀ c ∈ w1 ++ [46], c < 128 := fun c hc => by
          rcases List.mem_append.mp hc with h | h
          · exact hwc' c h
          · have : c = 46 := by simpa using h
            omega
        generalize w1 ++ [46] = w2 at hw2' hwc2 ⊢
        refine i_slL (SqL.of et4) fun g hg0 => ?_
        rw [cutV_eq, cutA_map]
        have hcl := cut_length ds (some 6) (some (7 + (w2.length : Int)))
        have hx1 : sx ds.length 0 (some 6) = 6 := by simp only [sx]; rw [if_neg (by decide)]; show min 6 ds.length = 6; omega
        have hx2 : sx ds.length ds.length (some (7 + (w2.length : Int))) = 7 + w2.length := by simp only [sx]; rw [if_neg (by omega)]; omega
        rw [hx1, hx2] at hcl
        have hcm : ∀ v ∈ cutA ds (some 6) (some (7 + (w2.length : Int))), 0 ≤ v ∧ v < 14 := fun v hv => by
          have := List.mem_of_mem_drop (List.mem_of_mem_take hv)
          obtain ⟨j, hj, rfl⟩ := List.mem_iff_getElem.mp this
          exact hg j hj
        generalize cutA ds (some 6) (some (7 + (w2.length : Int))) = cs at hcl hcm ⊢
        have s5 := same_new hg0 (.lst (cs.map V.int))
        have e5 := upd_same (H := H4) (a := g) (o := .lst (cs.map V.int))
        have s15 := s14.trans s5
        generalize upd H4 g (.lst (cs.map V.int)) = H5 at s5 e5 s15 ⊢
        walk_at "go"
        intro n hn0
        refine comp_list (K := K) (xs := cs.map V.int) (fun j acc σ H' => ∃ (v : Option V) (us : List Int), σ = [v] ∧ acc = us.map V.int ∧ us.length = j ∧ (∀ u ∈ us, 0 ≤ u ∧ u ≤ 9) ∧ H' n = some (.lst acc) ∧ Same H5 H')
          (fun j acc σ H' _ ⟨_, _, _, _, _, _, _, s3⟩ => SqL.of (s3 _ _ e5)) ⟨none, [], rfl, rfl, rfl, (fun u hu => nomatch hu), upd_same, same_new hn0 _⟩ (fun j acc σ H' ⟨_, us, _, e, e1, _, e3, _⟩ => ⟨e3, by rw [e, List.length_map]; omega⟩) (szn (by rw [List.length_map]; omega)) ?_ ?_
        · rintro j acc σ H6 hj ⟨v, us, rfl, rfl, hul, hus, e6, s6⟩
          have hj' : j < cs.length := by simpa using hj
          have hgd : (cs.map V.int).getD j .non = V.int cs[j] := by
            rw [List.getD_eq_getElem?_getD, List.getElem?_map, List.getElem?_eq_getElem hj']; rfl
          rw [hgd]
          obtain ⟨hu0, hu1⟩ := hcm _ (List.getElem_mem hj')
          generalize cs[j] = u at hu0 hu1 ⊢
          have hmu : CMul u (if decide (u < 10) = true then 1 else 0) := CMul.l (by omega) (by omega)
          walk_at "go"
          try refine i_mulI hmu ?_
          refine ⟨e6, _, us ++ [u * (if decide (u < 10) = true then 1 else 0)], rfl, by rw [List.map_append]; rfl, by simp [hul], fun x hx => ?_, upd_same, fun b' o e => ?_⟩
          · rcases List.mem_append.mp hx with h | h
            · exact hus x h
            · have : x = u * (if decide (u < 10) = true then 1 else 0) := by simpa using h
              rw [this]
              by_cases hu : u < 10
              · rw [if_pos (decide_eq_true hu)]; omega
              · rw [if_neg (by simp [hu])]; omega
          · have hbr : b' ≠ n := fun z => by rw [z, hn0] at e; cases e
            rw [upd_ne hbr]; exact s6 b' o e
        · rintro acc σ H6 ⟨v, us, rfl, rfl, hul, hus, e6, s6⟩
          have hul : us.length = w2.length + 1 := by rw [hul, List.length_map, hcl]; omega
          have s16 := s15.trans s6
          have hnH : H n = none := s15.free hn0
          clear e5 s5 s6 s15 hn0 hcm hcl et4 et3 et2 s14 s13 s12 s4 s3
          have fin : ∀ (us' : List Int) (H7 : Hp), us'.length = w2.length + 1 → (∀ u ∈ us', 0 ≤ u ∧ u ≤ 9) → Same H H7 → H7 n = some (.lst (us'.map V.int)) → ∀ (t' : Addr) (H8 : Hp), H8 t' = some (.tup (us'.map V.int)) → Same H7 H8 → ∀ p, H8 p = none → Q (.ref p) (upd H8 p (.tup [.str (S w2), .ref t'])) := fun us' H7 h1 h2 h3 h4 t' H8 h5 h6 p hp =>
            q _ (w2, us') _ (isPat_mk upd_same ((same_new hp _) _ _ h5)) ⟨hw2'.1, by show w2.length ≤ 22; omega, h1, h2, hwc2⟩ hw2'.2 ((h3.trans h6).trans (same_new hp _))
          have hset : ∀ (us' : List Int) (j : Nat), (∀ u ∈ us', 0 ≤ u ∧ u ≤ 9) → ∀ u ∈ us'.set j 0, 0 ≤ u ∧ u ≤ 9 := fun us' j h u hu => by
            rcases List.mem_or_eq_of_mem_set hu with h' | h'
            · exact h u h'
            · subst h'; decide
          have hup : ∀ (H7 : Hp) (o : HO), Same H H7 → Same H (upd H7 n o) := fun H7 o h b' o' e => by
            have hbn : b' ≠ n := fun z => by rw [z, hnH] at e; cases e
            rw [upd_ne hbn]; exact h b' o' e
          have hlw : (S w2).length ≤ sizeLine := szn (by rw [S_length]; omega)
          have hlast : atI (S w2).cps.toList (-1) = some (w2[w2.length - 1]'(by omega)) := by
            unfold atI ixN
            rw [S_cps, if_neg (by decide), if_pos (by omega)]
            show w2[(-1 + (w2.length : Int)).toNat]? = _
            rw [show (-1 + (w2.length : Int)).toNat = w2.length - 1 by omega, List.getElem?_eq_getElem]
          have hset1 : ∀ us' : List Int, us'.length = w2.length + 1 → ixN (us'.map V.int).length (-1) = some w2.length := fun us' h => by
            unfold ixN
            rw [List.length_map, if_neg (by decide), if_pos (by omega)]
            congr 1; omega
          walk_at "go"
          refine i_ixS (c := w2[0]'(by omega)) hlw (atI_of (by decide) (by rw [S_cps]; show w2[0]? = _; rw [List.getElem?_eq_getElem])) ?_
          walk_at "go"
          refine iteD (fun q3 => ?_) (fun q3 => ?_)
          · walk_at "go"
            refine i_set (j := 0) e6 (by unfold ixN; rw [List.length_map, if_pos (by decide), if_pos (by omega)]; rfl) ?_
            rw [show (us.map V.int).set 0 (V.int 0) = (us.set 0 0).map V.int from (List.map_set ..).symm]
            have e7 := upd_same (H := H6) (a := n) (o := .lst ((us.set 0 0).map V.int))
            have s17 := hup H6 (.lst ((us.set 0 0).map V.int)) s16
            generalize upd H6 n (.lst ((us.set 0 0).map V.int)) = H7 at e7 s17 ⊢
            walk_at "go"
            refine i_ixS hlw hlast ?_
            walk_at "go"
            refine iteD (fun q4 => ?_) (fun q4 => ?_)
            · walk_at "go"
              refine i_set (j := w2.length) e7 (hset1 _ (by rw [List.length_set]; exact hul)) ?_
              rw [show ((us.set 0 0).map V.int).set w2.length (V.int 0) = ((us.set 0 0).set w2.length 0).map V.int from (List.map_set ..).symm]
              walk_at "go"
              refine i_tupleR (seqR_lst upd_same) fun t' H8 ht' s8 => ?_
              walk_at "go"
              exact fin _ _ (by rw [List.length_set, List.length_set]; exact hul) (hset _ _ (hset _ _ hus)) (hup _ _ s17) upd_same t' H8 ht' s8
            · walk_at "go"
              refine i_tupleR (seqR_lst e7) fun t' H8 ht' s8 => ?_
              walk_at "go"
              exact fin _ _ (by rw [List.length_set]; exact hul) (hset _ _ hus) s17 e7 t' H8 ht' s8
          · walk_at "go"
            refine i_ixS hlw hlast ?_
            walk_at "go"
            refine iteD (fun q4 => ?_) (fun q4 => ?_)
            · walk_at "go"
              refine i_set (j := w2.length) e6 (hset1 _ hul) ?_
              rw [show (us.map V.int).set w2.length (V.int 0) = (us.set w2.length 0).map V.int from (List.map_set ..).symm]
              walk_at "go"
              refine i_tupleR (seqR_lst upd_same) fun t' H8 ht' s8 => ?_
              walk_at "go"
              exact fin _ _ (by rw [List.length_set]; exact hul) (hset _ _ hus) (hup _ _ s16) upd_same t' H8 ht' s8
            · walk_at "go"
              refine i_tupleR (seqR_lst e6) fun t' H8 ht' s8 => ?_
              walk_at "go"
              exact fin _ _ hul hus s16 e6 t' H8 ht' s8
      · walk_at "go"
        have hw2' : 1 ≤ w1.length ∧ w1.length ≤ 6 := by omega
        have hwc2 := hwc'
        generalize w1 = w2 at hw2' hwc2 ⊢
        refine i_slL (SqL.of et4) fun g hg0 => ?_
        rw [cutV_eq, cutA_map]
        have hcl := cut_length ds (some 6) (some (7 + (w2.length : Int)))
        have hx1 : sx ds.length 0 (some 6) = 6 := by simp only [sx]; rw [if_neg (by decide)]; show min 6 ds.length = 6; omega
        have hx2 : sx ds.length ds.length (some (7 + (w2.length : Int))) = 7 + w2.length := by simp only [sx]; rw [if_neg (by omega)]; omega
        rw [hx1, hx2] at hcl
        have hcm : ∀ v ∈ cutA ds (some 6) (some (7 + (w2.length : Int))), 0 ≤ v ∧ v < 14 := fun v hv => by
          have := List.mem_of_mem_drop (List.mem_of_mem_take hv)
          obtain ⟨j, hj, rfl⟩ := List.mem_iff_getElem.mp this
          exact hg j hj
        generalize cutA ds (some 6) (some (7 + (w2.length : Int))) = cs at hcl hcm ⊢
        have s5 := same_new hg0 (.lst (cs.map V.int))
        have e5 := upd_same (H := H4) (a := g) (o := .lst (cs.map V.int))
        have s15 := s14.trans s5
        generalize upd H4 g (.lst (cs.map V.int)) = H5 at s5 e5 s15 ⊢
        walk_at "go"
        intro n hn0
        refine comp_list (K := K) (xs := cs.map V.int) (fun j acc σ H' => ∃ (v : Option V) (us : List Int), σ = [v] ∧ acc = us.map V.int ∧ us.length = j ∧ (∀ u ∈ us, 0 ≤ u ∧ u ≤ 9) ∧ H' n = some (.lst acc) ∧ Same H5 H')
          (fun j acc σ H' _ ⟨_, _, _, _, _, _, _, s3⟩ => SqL.of (s3 _ _ e5)) ⟨none, [], rfl, rfl, rfl, (fun u hu => nomatch hu), upd_same, same_new hn0 _⟩ (fun j acc σ H' ⟨_, us, _, e, e1, _, e3, _⟩ => ⟨e3, by rw [e, List.length_map]; omega⟩) (szn (by rw [List.length_map]; omega)) ?_ ?_
        · rintro j acc σ H6 hj ⟨v, us, rfl, rfl, hul, hus, e6, s6⟩
          have hj' : j < cs.length := by simpa using hj
          have hgd : (cs.map V.int).getD j .non = V.int cs[j] := by
            rw [List.getD_eq_getElem?_getD, List.getElem?_map, List.getElem?_eq_getElem hj']; rfl
          rw [hgd]
          obtain ⟨hu0, hu1⟩ := hcm _ (List.getElem_mem hj')
          generalize cs[j] = u at hu0 hu1 ⊢
          have hmu : CMul u (if decide (u < 10) = true then 1 else 0) := CMul.l (by omega) (by omega)
          walk_at "go"
          try refine i_mulI hmu ?_
          refine ⟨e6, _, us ++ [u * (if decide (u < 10) = true then 1 else 0)], rfl, by rw [List.map_append]; rfl, by simp [hul], fun x hx => ?_, upd_same, fun b' o e => ?_⟩
          · rcases List.mem_append.mp hx with h | h
            · exact hus x h
            · have : x = u * (if decide (u < 10) = true then 1 else 0) := by simpa using h
              rw [this]
              by_cases hu : u < 10
              · rw [if_pos (decide_eq_true hu)]; omega
              · rw [if_neg (by simp [hu])]; omega
          · have hbr : b' ≠ n := fun z => by rw [z, hn0] at e; cases e
            rw [upd_ne hbr]; exact s6 b' o e
        · rintro acc σ H6 ⟨v, us, rfl, rfl, hul, hus, e6, s6⟩
          have hul : us.length = w2.length + 1 := by rw [hul, List.length_map, hcl]; omega
          have s16 := s15.trans s6
          have hnH : H n = none := s15.free hn0
          clear e5 s5 s6 s15 hn0 hcm hcl et4 et3 et2 s14 s13 s12 s4 s3
          have fin : ∀ (us' : List Int) (H7 : Hp), us'.length = w2.length + 1 → (∀ u ∈ us', 0 ≤ u ∧ u ≤ 9) → Same H H7 → H7 n = some (.lst (us'.map V.int)) → ∀ (t' : Addr) (H8 : Hp), H8 t' = some (.tup (us'.map V.int)) → Same H7 H8 → ∀ p, H8 p = none → Q (.ref p) (upd H8 p (.tup [.str (S w2), .ref t'])) := fun us' H7 h1 h2 h3 h4 t' H8 h5 h6 p hp =>
            q _ (w2, us') _ (isPat_mk upd_same ((same_new hp _) _ _ h5)) ⟨hw2'.1, by show w2.length ≤ 22; omega, h1, h2, hwc2⟩ hw2'.2 ((h3.trans h6).trans (same_new hp _))
          have hset : ∀ (us' : List Int) (j : Nat), (∀ u ∈ us', 0 ≤ u ∧ u ≤ 9) → ∀ u ∈ us'.set j 0, 0 ≤ u ∧ u ≤ 9 := fun us' j h u hu => by
            rcases List.mem_or_eq_of_mem_set hu with h' | h'
            · exact h u h'
            · subst h'; decide
          have hup : ∀ (H7 : Hp) (o : HO), Same H H7 → Same H (upd H7 n o) := fun H7 o h b' o' e => by
            have hbn : b' ≠ n := fun z => by rw [z, hnH] at e; cases e
            rw [upd_ne hbn]; exact h b' o' e
          have hlw : (S w2).length ≤ sizeLine := szn (by rw [S_length]; omega)
          have hlast : atI (S w2).cps.toList (-1) = some (w2[w2.length - 1]'(by omega)) := by
            unfold atI ixN
            rw [S_cps, if_neg (by decide), if_pos (by omega)]
            show w2[(-1 + (w2.length : Int)).toNat]? = _
            rw [show (-1 + (w2.length : Int)).toNat = w2.length - 1 by omega, List.getElem?_eq_getElem]
          have hset1 : ∀ us' : List Int, us'.length = w2.length + 1 → ixN (us'.map V.int).length (-1) = some w2.length := fun us' h => by
            unfold ixN
            rw [List.length_map, if_neg (by decide), if_pos (by omega)]
            congr 1; omega
          walk_at "go"
          refine i_ixS (c := w2[0]'(by omega)) hlw (atI_of (by decide) (by rw [S_cps]; show w2[0]? = _; rw [List.getElem?_eq_getElem])) ?_
          walk_at "go"
          refine iteD (fun q3 => ?_) (fun q3 => ?_)
          · walk_at "go"
            refine i_set (j := 0) e6 (by unfold ixN; rw [List.length_map, if_pos (by decide), if_pos (by omega)]; rfl) ?_
            rw [show (us.map V.int).set 0 (V.int 0) = (us.set 0 0).map V.int from (List.map_set ..).symm]
            have e7 := upd_same (H := H6) (a := n) (o := .lst ((us.set 0 0).map V.int))
            have s17 := hup H6 (.lst ((us.set 0 0).map V.int)) s16
            generalize upd H6 n (.lst ((us.set 0 0).map V.int)) = H7 at e7 s17 ⊢
            walk_at "go"
            refine i_ixS hlw hlast ?_
            walk_at "go"
            refine iteD (fun q4 => ?_) (fun q4 => ?_)
            · walk_at "go"
              refine i_set (j := w2.length) e7 (hset1 _ (by rw [List.length_set]; exact hul)) ?_
              rw [show ((us.set 0 0).map V.int).set w2.length (V.int 0) = ((us.set 0 0).set w2.length 0).map V.int from (List.map_set ..).symm]
              walk_at "go"
              refine i_tupleR (seqR_lst upd_same) fun t' H8 ht' s8 => ?_
              walk_at "go"
              exact fin _ _ (by rw [List.length_set, List.length_set]; exact hul) (hset _ _ (hset _ _ hus)) (hup _ _ s17) upd_same t' H8 ht' s8
            · walk_at "go"
              refine i_tupleR (seqR_lst e7) fun t' H8 ht' s8 => ?_
              walk_at "go"
              exact fin _ _ (by rw [List.length_set]; exact hul) (hset _ _ hus) s17 e7 t' H8 ht' s8
          · walk_at "go"
            refine i_ixS hlw hlast ?_
            walk_at "go"
            refine iteD (fun q4 => ?_) (fun q4 => ?_)
            · walk_at "go"
              refine i_set (j := w2.length) e6 (hset1 _ hul) ?_
              rw [show (us.map V.int).set w2.length (V.int 0) = (us.set w2.length 0).map V.int from (List.map_set ..).symm]
              walk_at "go"
              refine i_tupleR (seqR_lst upd_same) fun t' H8 ht' s8 => ?_
              walk_at "go"
              exact fin _ _ (by rw [List.length_set]; exact hul) (hset _ _ hus) (hup _ _ s16) upd_same t' H8 ht' s8
            · walk_at "go"
              refine i_tupleR (seqR_lst e6) fun t' H8 ht' s8 => ?_
              walk_at "go"
              exact fin _ _ hul hus s16 e6 t' H8 ht' s8
end
theorem range_places {p f : List Nat} (hp : p ≠ []) : (List.range ((f.length : Int) - (p.length : Int) + 1).toNat).filter (fits p f) = places p f := by
  have hp1 : 1 ≤ p.length := List.length_pos_iff.mpr hp
  unfold places
  obtain ⟨m, hm⟩ : ∃ m, f.length = ((f.length : Int) - (p.length : Int) + 1).toNat + m := ⟨f.length - ((f.length : Int) - (p.length : Int) + 1).toNat, by omega⟩
  generalize hn : ((f.length : Int) - (p.length : Int) + 1).toNat = n at hm ⊢
  rw [hm, List.range_add, List.filter_append]
  have : ((List.range m).map (n + ·)).filter (fits p f) = [] := by
    rw [List.filter_eq_nil_iff]
    intro b hb hc
    obtain ⟨j, hj, rfl⟩ := List.mem_map.mp hb
    unfold fits at hc
    simp only [Bool.and_eq_true, decide_eq_true_eq] at hc
    omega
  rw [this, List.append_nil]
theorem cut_fits {p f : List Nat} {b : Nat} (h : b + p.length ≤ f.length) : cutA f (some (b : Int)) (some ((b : Int) + (p.length : Int))) = p ↔ fits p f b = true := by
  have e1 : sx f.length 0 (some (b : Int)) = b := by simp only [sx]; rw [if_neg (by omega)]; omega
  have e2 : sx f.length f.length (some ((b : Int) + (p.length : Int))) = b + p.length := by simp only [sx]; rw [if_neg (by omega)]; omega
  unfold cutA fits
  rw [e1, e2, show b + p.length - b = p.length by omega]
  simp [h]
abbrev s_law_greatest : Stmt := top 13
theorem sc_law_greatest : FnScope ["_law_patterns", "_law_read_here", "_law_place", "_law_best", "_law_signs", "_law_numbers", "_law_begin"] ["_law_patterns", "_law_read_here", "_law_place"] (defScope s_law_greatest) := ⟨rfl, rfl, rfl, by decide +kernel, rfl, by decide +kernel, by decide +kernel⟩
abbrev s_law_lists : Stmt := top 15
theorem sc_law_lists : FnScope ["_law_script", "_law_letters_here", "_law_plan", "_law_one", "_law_other"] ["_law_script", "_law_letters_here"] (defScope s_law_lists) := ⟨rfl, rfl, rfl, by decide +kernel, rfl, by decide +kernel, by decide +kernel⟩
theorem comp_tup {K : PySem.W.Frag} {a : Addr} {xs : List V} {p : Addr} {g : TG} {tc : TT} {te : TE} {Q : VK} {σ0 : St} {H0 : Hp} (Pv : Nat → List V → St → Hp → Prop)
    (hl : ∀ i acc σ H, i ≤ xs.length → Pv i acc σ H → SqT K H a xs)
    (h0 : Pv 0 [] σ0 H0) (hp : ∀ i acc σ H, Pv i acc σ H → H p = some (.lst acc) ∧ acc.length ≤ i) (hz : xs.length ≤ sizeLine)
    (hs : ∀ i acc σ H, i < xs.length → Pv i acc σ H → g (xs.getD i .non) σ H fun σ3 H3 => tc σ3 H3 fun b H4 =>
      if b = true then te σ3 H4 fun v H5 => H5 p = some (.lst acc) ∧ Pv (i + 1) (acc ++ [v]) σ3 (upd H5 p (.lst (acc ++ [v]))) else Pv (i + 1) acc σ3 H4)
    (hd : ∀ acc σ H, Pv xs.length acc σ H → Q (.ref p) H) : CompRuns (Itt K a) p g tc te Q σ0 H0 :=
  comp_of (J := Itt K a) (n := xs.length) (val := fun i => xs.getD i .non) Pv
    (fun i acc σ H hi q => ⟨xs, xs[i], (hl i acc σ H (Nat.le_of_lt hi) q), by simp [hi]⟩) (fun acc σ H q => ⟨xs, (hl _ acc σ H (Nat.le_refl _) q), Nat.le_refl _⟩)
    (fun i acc σ H x _ hi q y => ⟨y.1, by have := y.2 xs (hl i acc σ H (Nat.le_of_lt hi) q); rw [List.getD_eq_getElem?_getD, this]; rfl⟩) h0 hp hz hs hd
/-- the greatest number told at a place -/
def spGreat : Sp := fun vs H Q _ => ∃ (v : V) (xs : List Pat) (rd : List Nat) (p : Nat), vs = [v, .str (S rd), .int (p : Int)] ∧ Is H v (patsD xs) ∧ OkP xs ∧ rd.length ≤ 1000 ∧ p ≤ 1000 ∧ Q (.int (numA rd p 0 xs)) H
/-- two drawn lists -/
def spLists (K : PySem.W.Frag) : Sp := fun vs H Q _ => ∃ (a : Addr) (ns : List Int) (b : Addr) (l : List Nat), vs = [.ref a, .ref b] ∧ SqL K H a (ns.map V.int) ∧ H b = some (.lst (lets l)) ∧ Low l ∧ 1 ≤ l.length ∧ l.length ≤ 26 ∧
  ∀ (r a1 b1 : Addr) (one other : List Pat) (H' : Hp), H' r = some (.tup [.ref a1, .ref b1]) → Two H' a1 b1 one other → (∀ x ∈ one, ∀ c ∈ x.1, c < 128) → (∀ x ∈ other, ∀ c ∈ x.1, c < 128) → Same H H' → Q (.ref r) H'
/-- the view of what was read -/
def lawView (one other : List Pat) (rd : List Nat) : Option Nat → View
  | none => ⟨tailOf (begs (one ++ other)) rd, none, 0, 0⟩
  | some g => ⟨tailOf (begs (one ++ other)) rd, some (rd.length - g - 1), numA rd (g + 1) 0 one, numA rd (g + 1) 0 other⟩
def VCs (v : View) : Prop := ∀ c ∈ v.t, c < 128
theorem suf_tail {one other : List Pat} {rd : List Nat} {x : Pat} (hx : x ∈ one ++ other) (h : x.1 <:+ rd) : x.1 <:+ tailOf (begs (one ++ other)) rd := tailOf_max (begs_self hx) h
theorem OkP.len {xs : List Pat} (h : OkP xs) : ∀ x ∈ xs, x.2.length = x.1.length + 1 := fun x hx => (h.1 x hx).2.2
theorem OkP.ne {xs : List Pat} (h : OkP xs) : ∀ x ∈ xs, x.1 ≠ [] := fun x hx => List.length_pos_iff.mp (h.1 x hx).1
theorem law_next {one other : List Pat} (h1 : OkP one) (h2 : OkP other) {rd : List Nat} {c : Nat} {g : Option Nat} (hg : ∀ n, g = some n → n + 1 ≤ rd.length) :
    nextV one other (lawView one other rd g) c = lawView one other (rd ++ [c]) (some (g.getD rd.length)) := by
  have ht : ∀ t, t = tailOf (begs (one ++ other)) rd → tailOf (begs (one ++ other)) (t ++ [c]) = tailOf (begs (one ++ other)) (rd ++ [c]) := fun t e => by
    rw [e]; exact (tailOf_snoc (begs_nil _) (begs_pre _) rd c).symm
  have hs : ∀ x ∈ one ++ other, x.1 <:+ rd ++ [c] → x.1 <:+ tailOf (begs (one ++ other)) (rd ++ [c]) := fun x hx h => suf_tail hx h
  have hT := tailOf_suf (begs (one ++ other)) (rd ++ [c])
  cases g with
  | none =>
    unfold nextV lawView
    simp only [Option.map_none, Option.getD_none]
    rw [ht _ rfl]
    have e1 := numA_step (back := 0) (p := rd.length + 1) h1.len h1.ne (fun x hx => hs x (List.mem_append.mpr (.inl hx))) hT (by omega)
    have e2 := numA_step (back := 0) (p := rd.length + 1) h2.len h2.ne (fun x hx => hs x (List.mem_append.mpr (.inr hx))) hT (by omega)
    rw [numA_out (rd := rd) (p := rd.length + 1) h1.len (by omega)] at e1
    rw [numA_out (rd := rd) (p := rd.length + 1) h2.len (by omega)] at e2
    unfold tell
    rw [e1, e2]
    simp only [List.length_append, List.length_cons, List.length_nil]
    congr 2
    omega
  | some n =>
    have hn := hg n rfl
    unfold nextV lawView
    simp only [Option.map_some, Option.getD_some]
    rw [ht _ rfl]
    have e1 := numA_step (back := rd.length - n - 1 + 1) (p := n + 1) h1.len h1.ne (fun x hx => hs x (List.mem_append.mpr (.inl hx))) hT (by omega)
    have e2 := numA_step (back := rd.length - n - 1 + 1) (p := n + 1) h2.len h2.ne (fun x hx => hs x (List.mem_append.mpr (.inr hx))) hT (by omega)
    unfold tell
    rw [e1, e2]
    simp only [List.length_append, List.length_cons, List.length_nil]
    congr 2
    omega
theorem law_last {one other : List Pat} (h1 : OkP one) (h2 : OkP other) {rd : List Nat} {g n : Nat} (hg : g + 1 ≤ rd.length) (hn : rd.length - g - 1 = n + 1) :
    lastPs one other (lawView one other rd (some g)) = [(numA (rd ++ [46]) (g + 1) 0 one, numA (rd ++ [46]) (g + 1) 0 other)] := by
  have hc : ∀ x ∈ one ++ other, x.1 <:+ rd ++ [46] → x.1 <:+ tailOf (begs (one ++ other)) rd ++ [46] := fun x hx h => by
    have hx1 : x.1 ∈ begs (one ++ other) := begs_self hx
    rcases snoc_cases x.1 with e | ⟨s, d, e⟩
    · rw [e]; exact List.nil_suffix
    · rw [e] at h hx1 ⊢
      obtain ⟨h3, h4⟩ := suffix_snoc.mp h
      exact suffix_snoc.mpr ⟨h3, tailOf_max (begs_pre _ _ _ hx1) h4⟩
  have hT : tailOf (begs (one ++ other)) rd ++ [46] <:+ rd ++ [46] := suffix_snoc.mpr ⟨rfl, tailOf_suf _ _⟩
  have e1 := numA_step (back := n + 2) (p := g + 1) h1.len h1.ne (fun x hx => hc x (List.mem_append.mpr (.inl hx))) hT (by omega)
  have e2 := numA_step (back := n + 2) (p := g + 1) h2.len h2.ne (fun x hx => hc x (List.mem_append.mpr (.inr hx))) hT (by omega)
  unfold lawView lastPs
  simp only [hn]
  unfold tell
  rw [e1, e2]
section
variable {P : Program} {w : World} {K : PySem.W.Frag} {mg : Str → Option Value} {base : Heap} {f : Addr} {fd : FuncData} {tk : Nat → Tok} {cO : Addr}
theorem ok_law_greatest (T : Txt mg tk) (F : Fun K "_law_greatest" "_law_greatest" s_law_greatest f fd) : FnOk P w K mg base CX0 1 f fd ["_law_patterns", "_law_read_here", "_law_place"] spGreat := by
  refine F.ok sc_law_greatest (fun vs H Q E h => ?_) (fun cdv A outer s H vs Q E hr h => ?_)
  · obtain ⟨v, xs, rd, p, rfl, _⟩ := h
    rfl
  obtain ⟨v, xs, rd, pl, rfl, hv, hok, hrd, hpl, q⟩ := h
  obtain ⟨a, ys, rfl, ha, hys⟩ := isPats hv
  have nd := sc_law_greatest.nd
  refine ⟨_, (pss_cons (ps_set (i := 3) nd rfl (Or.inl rfl) pe_int)
    (pss_cons (ps_for PassesOwn.never rfl (pi_any (K := K) (pv 0)) (pg_tup rfl (pgs_cons (pg_name (i := 4) nd rfl (Or.inl rfl)) (pgs_cons (pg_name (i := 5) nd rfl (Or.inl rfl)) pgs_nil)))
     (pss_one (ps_for PassesOwn.never rfl (pi_range1 rfl T.z_range (pa_cons (pe_op o_add (pe_op o_sub (pe_callB (c_len (K := K)) rfl T.z_len (by decide +kernel) (pa_cons (pv 1) pa_nil)) (pe_callB (c_len (K := K)) rfl T.z_len (by decide +kernel) (pa_cons (pv 4) pa_nil))) pe_int) pa_nil)) (pg_name (i := 6) nd rfl (Or.inl rfl))
     (pss_one (ps_if (PW.pt (pw_and (pt_chain o_le o_le (pv 6) (pv 2) (pe_op o_add (pv 6) (pe_callB (c_len (K := K)) rfl T.z_len (by decide +kernel) (pa_cons (pv 4) pa_nil)))) (pw_and1 (pt_cmpR (o_eq hr.units) (pe_slice (sl_any (K := K)) (pv 1) (po_some (pv 6)) (po_some (pe_op o_add (pv 6) (pe_callB (c_len (K := K)) rfl T.z_len (by decide +kernel) (pa_cons (pv 4) pa_nil))))) (pv 4) (nomark _)))))
     (pss_one (ps_set (i := 3) nd rfl (Or.inl rfl) (pe_callB (c_max rfl) rfl T.z_max (by decide +kernel) (pa_cons (pv 3) (pa_cons (pe_ix (ix_any (K := K)) (pv 5) (pe_op o_sub (pv 2) (pv 6)) (fun _ _ => rfl)) pa_nil)))))
     pss_nil)))))
    (pss_one (ps_ret (pv 3))))), ?_⟩
  rw [show L2.start ["_law_patterns", "_law_read_here", "_law_place", "_law_best", "_law_signs", "_law_numbers", "_law_begin"] [.ref a, .str (S rd), .int (pl : Int)] = [some (.ref a), some (.str (S rd)), some (.int (pl : Int)), none, none, none, none] from rfl]
  walk_at "go"
  refine for_list (K := K) (xs := ys) (fun i σ H' => ∃ (v4 v5 v6 : Option V), H' = H ∧ σ = [some (.ref a), some (.str (S rd)), some (.int (pl : Int)), some (.int (numA rd pl 0 (xs.take i))), v4, v5, v6])
    ⟨none, none, none, rfl, rfl⟩ (fun i σ H' _ ⟨_, _, _, e, _⟩ => by rw [e]; exact SqL.of ha) ?_ ?_
  · rintro i x σ H1 hx ⟨v4, v5, v6, rfl, rfl⟩
    have hil : i < xs.length := by
      have h1 := (List.getElem?_eq_some_iff.mp hx).1
      have h2 := hys.length
      rw [List.length_map] at h2; omega
    obtain ⟨x', d, hx1, hx2, hx3⟩ := IsL.get hys (i := i) (by rw [List.length_map]; exact hil)
    rw [hx] at hx1
    cases hx1
    rw [List.getElem?_map, List.getElem?_eq_getElem hil] at hx2
    cases hx2
    obtain ⟨pa, nt, rfl, hpa, hnt⟩ := isPat hx3
    obtain ⟨hg1, hg2, hg3⟩ := hok.1 _ (List.getElem_mem hil)
    have hst : numA rd pl 0 (xs.take (i + 1)) = numP rd pl (numA rd pl 0 (xs.take i)) xs[i] := by
      unfold numA; rw [List.take_succ, List.getElem?_eq_getElem hil, List.foldl_append]; rfl
    rw [hst]
    generalize numA rd pl 0 (xs.take i) = M1
    generalize xs[i] = xi at hg1 hg2 hg3 hpa hnt ⊢
    obtain ⟨p, ns⟩ := xi
    have hg1 : 1 ≤ p.length := hg1
    have hg2 : p.length ≤ 22 := hg2
    have hg3 : ns.length = p.length + 1 := hg3
    have hpne : p ≠ [] := List.length_pos_iff.mp hg1
    have hpa : H1 pa = some (.tup [.str (S p), .ref nt]) := hpa
    have hnt : H1 nt = some (.tup (ns.map V.int)) := hnt
    refine i_gtup hpa rfl (i_gcons (i_name (i_gcons (i_name (i_gnil ?_)))))
    walk_at "go"
    refine for_range (fun j σ H' => ∃ (v6 : Option V), H' = H1 ∧ σ = [some (.ref a), some (.str (S rd)), some (.int (pl : Int)), some (.int (((List.range j).filter (fits p rd)).foldl (fun m b => laidN m pl b ns) M1)), some (.str (S p)), some (.ref nt), v6])
      ⟨_, rfl, rfl⟩ ?_ ?_
    · rintro j σ H2 hj ⟨v6, rfl, rfl⟩
      have hjp : j + p.length ≤ rd.length := by omega
      have hcf := cut_fits (f := rd) hjp
      have hst2 : (List.range (j + 1)).filter (fits p rd) = (List.range j).filter (fits p rd) ++ (if fits p rd j = true then [j] else []) := by
        rw [List.range_succ, List.filter_append, List.filter_cons, List.filter_nil]
      rw [hst2, List.foldl_append]
      generalize ((List.range j).filter (fits p rd)).foldl (fun m b => laidN m pl b ns) M1 = M2
      walk_at "go"
      have key : ∀ m : Int, m = ((if fits p rd j = true then [j] else []).foldl (fun m b => laidN m pl b ns) M2) → ∃ (v6 : Option V), H2 = H2 ∧ [some (V.ref a), some (.str (S rd)), some (.int (pl : Int)), some (.int m), some (.str (S p)), some (.ref nt), some (.int (0 + (j : Int)))] = [some (V.ref a), some (.str (S rd)), some (.int (pl : Int)), some (.int ((if fits p rd j = true then [j] else []).foldl (fun m b => laidN m pl b ns) M2)), some (.str (S p)), some (.ref nt), v6] := fun m h => by subst h; exact ⟨_, rfl, rfl⟩
      have hno : ¬ (j ≤ pl ∧ pl ≤ j + p.length) → M2 = ((if fits p rd j = true then [j] else []).foldl (fun m b => laidN m pl b ns) M2) := fun h => by
        split
        · show M2 = laidN M2 pl j ns
          rw [laidN_eq, if_neg (by omega)]
        · rfl
      refine iteD (fun c1 => ?_) (fun c1 => ?_)
      · walk_at "go"
        refine iteD (fun c2 => ?_) (fun c2 => ?_)
        · walk_at "go"
          rw [Int.zero_add]
          refine iteD (fun c3 => ?_) (fun c3 => ?_)
          · have c' : fits p rd j = true := hcf.mp (S_inj (by injection c3))
            walk_at "go"
            have hix : pl - j < ns.length := by omega
            refine i_ixR (v := .int ns[pl - j]) (seqR_tup hnt) (atI_of (by omega) (by rw [show ((pl : Int) - (j : Int)).toNat = pl - j by omega, List.getElem?_map, List.getElem?_eq_getElem hix]; rfl)) ?_
            walk_at "go"
            have hk := key (mx M2 ns[pl - j]) (by
              rw [if_pos c']
              show _ = laidN M2 pl j ns
              rw [laidN_eq, if_pos (by omega)]
              have : ns.getD (pl - j) 0 = ns[pl - j] := by rw [List.getD_eq_getElem?_getD, List.getElem?_eq_getElem hix]; rfl
              rw [this])
            rw [Int.zero_add] at hk
            exact hk
          · have c' : ¬ fits p rd j = true := fun z => c3 (by rw [hcf.mpr z])
            walk_at "go"
            have hk := key M2 (by rw [if_neg c']; rfl)
            rw [Int.zero_add] at hk
            exact hk
        · walk_at "go"
          exact key M2 (hno (by omega))
      · walk_at "go"
        exact key M2 (hno (by omega))
    · rintro σ H2 ⟨v6, rfl, rfl⟩
      rw [range_places hpne]
      walk_at "go"
      exact ⟨_, _, _, rfl, rfl⟩
  · rintro σ H1 ⟨v4, v5, v6, rfl, rfl⟩
    have h2 := hys.length
    rw [List.length_map] at h2
    rw [h2, List.take_length]
    walk_at "go"
    exact q
theorem Two.is {H : Hp} {a b : Addr} {one other : List Pat} (h : Two H a b one other) : Is H (.ref a) (patsD one) ∧ Is H (.ref b) (patsD other) := by
  obtain ⟨ya, yb, ha, hb, hya, hyb, _, _⟩ := h
  simp only [Is, patsD]
  exact ⟨⟨a, ya, rfl, ha, hya⟩, ⟨b, yb, rfl, hb, hyb⟩⟩
theorem Two.ok {H : Hp} {a b : Addr} {one other : List Pat} (h : Two H a b one other) : OkP one ∧ OkP other := by
  obtain ⟨_, _, _, _, _, _, h1, h2⟩ := h
  exact ⟨h1, h2⟩
end
theorem IsL_take {H : Hp} : ∀ (n : Nat) {ys : List V} {ds : List Dt}, L2.IsL H ys ds → L2.IsL H (ys.take n) (ds.take n)
  | 0, ys, ds, _ => by simp only [List.take_zero, L2.IsL]
  | n + 1, [], [], _ => by simp only [List.take_nil, L2.IsL]
  | n + 1, [], _ :: _, h => by simp only [L2.IsL] at h
  | n + 1, _ :: _, [], h => by simp only [L2.IsL] at h
  | n + 1, y :: ys, d :: ds, h => by
    simp only [L2.IsL] at h
    simp only [List.take_succ_cons, L2.IsL]
    exact ⟨h.1, IsL_take n h.2⟩
theorem IsL_drop {H : Hp} : ∀ (n : Nat) {ys : List V} {ds : List Dt}, L2.IsL H ys ds → L2.IsL H (ys.drop n) (ds.drop n)
  | 0, ys, ds, h => by simpa only [List.drop_zero] using h
  | n + 1, [], [], _ => by simp only [List.drop_nil, L2.IsL]
  | n + 1, [], _ :: _, h => by simp only [L2.IsL] at h
  | n + 1, _ :: _, [], h => by simp only [L2.IsL] at h
  | n + 1, y :: ys, d :: ds, h => by
    simp only [L2.IsL] at h
    simp only [List.drop_succ_cons]
    exact IsL_drop n h.2
theorem IsL_cut {H : Hp} {ys : List V} {xs : List Pat} (lo hi : Option Int) (h : L2.IsL H ys (xs.map patD)) : L2.IsL H (cutA ys lo hi) ((cutA xs lo hi).map patD) := by
  rw [← cutA_map]
  have hl := h.length
  unfold cutA
  rw [hl]
  exact IsL_take _ (IsL_drop _ h)
theorem cut_mem {α : Type} {l : List α} {lo hi : Option Int} {c : α} (h : c ∈ cutA l lo hi) : c ∈ l := List.mem_of_mem_drop (List.mem_of_mem_take h)
theorem cut_le {α : Type} (l : List α) (lo hi : Option Int) : (cutA l lo hi).length ≤ l.length := by
  unfold cutA; rw [List.length_take, List.length_drop]; omega
section
variable {P : Program} {w : World} {K : PySem.W.Frag} {mg : Str → Option Value} {base : Heap} {f : Addr} {fd : FuncData} {tk : Nat → Tok} {cO : Addr}
theorem ok_law_lists (T : Txt mg tk) (F : Fun K "_law_lists" "_law_lists" s_law_lists f fd) (D_law_row : Dn P w K mg base "_law_row" 1 ["_law_script", "_law_at", "_law_bounds"] (spRow K)) (D_law_pattern : Dn P w K mg base "_law_pattern" 2 ["_law_script", "_law_at", "_law_letters_here"] (spPat K)) : FnOk P w K mg base CX0 3 f fd ["_law_script", "_law_letters_here"] (spLists K) := by
  refine F.ok sc_law_lists (fun vs H Q E h => ?_) (fun cdv A outer s H vs Q E hr h => ?_)
  · obtain ⟨a, ns, b, l, rfl, _⟩ := h
    rfl
  obtain ⟨a, ns, lt, l, rfl, hS, hb, hlo, hl1, hl2, q⟩ := h
  have nd := sc_law_lists.nd
  refine ⟨_, (pss_cons (ps_set (i := 2) nd rfl (Or.inl rfl) (pe_callD D_law_row (hr.mono (by first | decide | omega)) rfl (pa_cons (pv 0) (pa_cons pe_int (pa_cons (pe_lst (pa_cons pe_int (pa_cons pe_int (pa_cons pe_int (pa_cons pe_int pa_nil))))) pa_nil)))))
    (pss_cons (ps_setC (i := 3) ["_law_script", "_law_letters_here", "_law_k"] [some 0, some 1, none] rfl (by kernel_rfl) rfl nd rfl rfl (pi_range1 rfl T.z_range (pa_cons (pe_ix (ix_any (K := K)) (pv 2) pe_int (fun _ _ => rfl)) pa_nil)) (fun _ _ _ _ => (pg_name (i := 2) (show (["_law_script", "_law_letters_here", "_law_k"] : List Str).Nodup by decide +kernel) rfl (Or.inl rfl) (Or.inr rfl))) (fun _ _ _ _ => pts_nil) (fun _ _ _ _ => (pe_callD D_law_pattern (hr.mono (by first | decide | omega)) rfl (pa_cons (pv 0) (pa_cons (pe_op o_add pe_int (pv 2)) (pa_cons (pv 1) pa_nil))))))
    (pss_cons (ps_setC (i := 4) ["_law_script", "_law_letters_here", "_law_k"] [some 0, some 1, none] rfl (by kernel_rfl) rfl nd rfl rfl (pi_range1 rfl T.z_range (pa_cons (pe_ix (ix_any (K := K)) (pv 2) pe_int (fun _ _ => rfl)) pa_nil)) (fun _ _ _ _ => (pg_name (i := 2) (show (["_law_script", "_law_letters_here", "_law_k"] : List Str).Nodup by decide +kernel) rfl (Or.inl rfl) (Or.inr rfl))) (fun _ _ _ _ => pts_nil) (fun _ _ _ _ => (pe_callD D_law_pattern (hr.mono (by first | decide | omega)) rfl (pa_cons (pv 0) (pa_cons (pe_op o_add pe_int (pv 2)) (pa_cons (pv 1) pa_nil))))))
    (pss_cons (ps_if (pt_cmpR (o_eq hr.units) (pe_ix (ix_any (K := K)) (pv 2) pe_int (fun _ _ => rfl)) pe_int (nomark _))
     (pss_one (ps_set (i := 4) nd rfl (Or.inl rfl) (pe_op o_add (pe_slice (sl_any (K := K)) (pv 3) po_none (po_some (pe_ix (ix_any (K := K)) (pv 2) pe_int (fun _ _ => rfl)))) (pe_slice (sl_any (K := K)) (pv 4) po_none (po_some pe_int)))))
     pss_nil)
    (pss_one (ps_ret (pe_tup (pa_cons (pv 3) (pa_cons (pv 4) pa_nil))))))))), ?_⟩
  rw [show L2.start ["_law_script", "_law_letters_here", "_law_plan", "_law_one", "_law_other"] [.ref a, .ref lt] = [some (.ref a), some (.ref lt), none, none, none] from rfl]
  walk_at "go"
  intro p1 h1
  have s1 := same_new h1 (.lst [.int 5, .int 5, .int 2, .int 5])
  walk_at "go"
  refine ⟨a, ns, 1, p1, [5, 5, 2, 5], rfl, s1.seq hS, by decide, upd_same, by decide, by decide, fun r1 ds H2 hr1 e2 hdl hds s2 => ?_⟩
  have s02 := s1.trans s2
  obtain ⟨n1, n2, fl, m, rfl⟩ : ∃ x y z u, ds = [x, y, z, u] := by
    match ds, hdl with
    | [x, y, z, u], _ => exact ⟨x, y, z, u, rfl⟩
  obtain ⟨hx0, hx1⟩ := hds 0 n1 5 rfl rfl
  obtain ⟨hy0, hy1⟩ := hds 1 n2 5 rfl rfl
  obtain ⟨hm0, hm1⟩ := hds 3 m 5 rfl rfl
  have e2 : H2 r1 = some (.lst [.int n1, .int n2, .int fl, .int m]) := e2
  have hb2 := s02 _ _ hb
  clear hds hr1 s1 s2 h1
  walk_at "go"
  intro pa hpa
  refine comp_range (fun i acc σ H' => ∃ (v : Option V) (xs : List Pat), σ = [some (.ref a), some (.ref lt), v] ∧ acc.length = i ∧ H' pa = some (.lst acc) ∧ L2.IsL H' acc (xs.map patD) ∧ (∀ x ∈ xs, GP x) ∧ Same H2 H')
    ⟨none, [], rfl, rfl, upd_same, (by simp [L2.IsL]), (fun x hx => nomatch hx), same_new hpa _⟩ (fun i acc σ H' ⟨_, xs, _, e, e1, _⟩ => ⟨e1, by omega⟩) (szn (by omega)) ?_ ?_
  · rintro i acc σ H' hi ⟨v, xs, rfl, hal, e8, hxs, hgp, s8⟩
    walk_at "go"
    refine ⟨a, ns, 10 + i, lt, l, by simp only [Int.natCast_add, Int.zero_add]; rfl, (s02.trans s8).seq hS, by omega, s8 _ _ hb2, hlo, hl1, hl2, fun v x H9 hv hx hxl s9 => ?_⟩
    have e9 := s9 _ _ e8
    have k4 : Tk H9 (upd H9 pa (.lst (acc ++ [v]))) := Tk.lst e9 _
    refine ⟨e9, _, xs ++ [x], rfl, by simp [hal], upd_same, ?_, fun y hy => ?_, fun b' o e => ?_⟩
    · rw [List.map_append]
      exact IsL.snoc (IsL.tk k4 (tOnly_pats _) (IsL.same s9 hxs)) (Is.tk k4 (tOnly_pat _) hv)
    · rcases List.mem_append.mp hy with h | h
      · exact hgp y h
      · have : y = x := by simpa using h
        rw [this]; exact hx
    · have hbr : b' ≠ pa := fun z => by rw [z, hpa] at e; cases e
      rw [upd_ne hbr]; exact s9 b' o (s8 b' o e)
  rintro acc1 σ H3 ⟨v, one, rfl, hal1, e3, hone, hg1, s3⟩
  have s03 := s02.trans s3
  have hb3 := s3 _ _ hb2
  have e23 := s3 _ _ e2
  have hol := hone.length
  rw [List.length_map] at hol
  clear v hpa
  walk_at "go"
  intro pb hpb
  refine comp_range (fun i acc σ H' => ∃ (v : Option V) (xs : List Pat), σ = [some (.ref a), some (.ref lt), v] ∧ acc.length = i ∧ H' pb = some (.lst acc) ∧ L2.IsL H' acc (xs.map patD) ∧ (∀ x ∈ xs, GP x) ∧ Same H3 H')
    ⟨none, [], rfl, rfl, upd_same, (by simp [L2.IsL]), (fun x hx => nomatch hx), same_new hpb _⟩ (fun i acc σ H' ⟨_, xs, _, e, e1, _⟩ => ⟨e1, by omega⟩) (szn (by omega)) ?_ ?_
  · rintro i acc σ H' hi ⟨v, xs, rfl, hal, e8, hxs, hgp, s8⟩
    walk_at "go"
    refine ⟨a, ns, 20 + i, lt, l, by simp only [Int.natCast_add, Int.zero_add]; rfl, (s03.trans s8).seq hS, by omega, s8 _ _ hb3, hlo, hl1, hl2, fun v x H9 hv hx hxl s9 => ?_⟩
    have e9 := s9 _ _ e8
    have k4 : Tk H9 (upd H9 pb (.lst (acc ++ [v]))) := Tk.lst e9 _
    refine ⟨e9, _, xs ++ [x], rfl, by simp [hal], upd_same, ?_, fun y hy => ?_, fun b' o e => ?_⟩
    · rw [List.map_append]
      exact IsL.snoc (IsL.tk k4 (tOnly_pats _) (IsL.same s9 hxs)) (Is.tk k4 (tOnly_pat _) hv)
    · rcases List.mem_append.mp hy with h | h
      · exact hgp y h
      · have : y = x := by simpa using h
        rw [this]; exact hx
    · have hbr : b' ≠ pb := fun z => by rw [z, hpb] at e; cases e
      rw [upd_ne hbr]; exact s9 b' o (s8 b' o e)
  rintro acc2 σ H4 ⟨v, other, rfl, hal2, e4, hother, hg2, s4⟩
  have s04 := s03.trans s4
  have e24 := s4 _ _ e23
  have e34 := s4 _ _ e3
  have hone4 := IsL.same s4 hone
  have hotl := hother.length
  rw [List.length_map] at hotl
  have okp : ∀ {xs : List Pat}, (∀ x ∈ xs, GP x) → xs.length ≤ 100 → OkP xs := fun {xs} h hl => ⟨fun x hx => ⟨(h x hx).ne, (h x hx).le, (h x hx).len⟩, hl⟩
  clear v hpb
  walk_at "go"
  refine iteD (fun c => ?_) (fun c => ?_)
  · walk_at "go"
    refine i_slL (SqL.of e34) fun c1 hc1 => ?_
    have s5 := same_new hc1 (.lst (cutV acc1 none (some m)))
    have e45 := s5 _ _ e4
    have ec1 := upd_same (H := H4) (a := c1) (o := .lst (cutV acc1 none (some m)))
    generalize upd H4 c1 (.lst (cutV acc1 none (some m))) = H5 at s5 e45 ec1 ⊢
    walk_at "go"
    refine i_slL (SqL.of e45) fun c2 hc2 => ?_
    have s6 := same_new hc2 (.lst (cutV acc2 none (some 2)))
    have ec16 := s6 _ _ ec1
    have ec2 := upd_same (H := H5) (a := c2) (o := .lst (cutV acc2 none (some 2)))
    generalize upd H5 c2 (.lst (cutV acc2 none (some 2))) = H6 at s6 ec16 ec2 ⊢
    have l1 := cut_le acc1 none (some m)
    have l2 := cut_le acc2 none (some 2)
    walk_at "go"
    refine i_addL ec16 ec2 (szn (by rw [cutV_eq, cutV_eq]; omega)) fun pc hpc => ?_
    have s7 := same_new hpc (.lst (cutV acc1 none (some m) ++ cutV acc2 none (some 2)))
    have ec7 := upd_same (H := H6) (a := pc) (o := .lst (cutV acc1 none (some m) ++ cutV acc2 none (some 2)))
    generalize upd H6 pc (.lst (cutV acc1 none (some m) ++ cutV acc2 none (some 2))) = H7 at s7 ec7 ⊢
    have s47 := (s5.trans s6).trans s7
    walk_at "go"
    intro rr hrr
    have s8 := same_new hrr (.tup [.ref pa, .ref pc])
    have s48 := s47.trans s8
    have l3 := cut_le one none (some m)
    have l4 := cut_le other none (some 2)
    refine q rr pa pc one (cutA one none (some m) ++ cutA other none (some 2)) _ upd_same ⟨acc1, _, s48 _ _ e34, s8 _ _ ec7, IsL.same s48 hone4, ?_, okp hg1 (by omega), okp (fun x hx => ?_) (by rw [List.length_append]; omega)⟩ (fun x hx => (hg1 x hx).cs) (fun x hx => ?_) (s04.trans s48)
    · rw [cutV_eq, cutV_eq, List.map_append]
      exact IsL.append (IsL_cut _ _ (IsL.same s48 hone4)) (IsL_cut _ _ (IsL.same s48 hother))
    · rcases List.mem_append.mp hx with h | h
      · exact hg1 x (cut_mem h)
      · exact hg2 x (cut_mem h)
    · rcases List.mem_append.mp hx with h | h
      · exact (hg1 x (cut_mem h)).cs
      · exact (hg2 x (cut_mem h)).cs
  · walk_at "go"
    intro rr hrr
    have s8 := same_new hrr (.tup [.ref pa, .ref pb])
    exact q rr pa pb one other _ upd_same ⟨acc1, acc2, s8 _ _ e34, s8 _ _ e4, IsL.same s8 hone4, IsL.same s8 hother, okp hg1 (by omega), okp hg2 (by omega)⟩ (fun x hx => (hg1 x hx).cs) (fun x hx => (hg2 x hx).cs) (s04.trans s8)
end
theorem cut_to' {α : Type} (l : List α) (j : Nat) (h : j ≤ l.length) : cutA l none (some (j : Int)) = l.take j := by
  unfold cutA
  have e1 : sx l.length 0 none = 0 := rfl
  have e2 : sx l.length l.length (some (j : Int)) = j := by simp only [sx]; rw [if_neg (by omega)]; omega
  rw [e1, e2, List.drop_zero, Nat.sub_zero]
/-- what was read of a word -/
def rdW (w : List Nat) (m : Nat) : List Nat := 46 :: w.take m
theorem rdW_len {w : List Nat} {m : Nat} (h : m ≤ w.length) : (rdW w m).length = m + 1 := by unfold rdW; rw [List.length_cons, List.length_take]; omega
theorem rdW_succ {w : List Nat} {m : Nat} (h : m < w.length) : rdW w (m + 1) = rdW w m ++ [w[m]] := by
  unfold rdW; rw [List.take_succ, List.getElem?_eq_getElem h]; rfl
theorem rdW_cs {w : List Nat} (h : Low w) (m : Nat) : ∀ c ∈ rdW w m, c < 128 := fun c hc => by
  rcases List.mem_cons.mp hc with h' | h'
  · omega
  · exact Low_lt h c (List.mem_of_mem_take h')
theorem lawView_ok {one other : List Pat} {rd : List Nat} (h : rd.length ≤ 90) (hc : ∀ c ∈ rd, c < 128) : ∀ g, OkV (lawView one other rd g) ∧ VCs (lawView one other rd g) := fun g => by
  have hl := (tailOf_suf (begs (one ++ other)) rd).length_le
  have hs : ∀ c ∈ tailOf (begs (one ++ other)) rd, c < 128 := fun c hc' => hc c ((tailOf_suf _ rd).subset hc')
  cases g with
  | none => exact ⟨⟨by show (tailOf _ rd).length ≤ 100; omega, fun n e => nomatch e⟩, hs⟩
  | some n => exact ⟨⟨by show (tailOf _ rd).length ≤ 100; omega, fun m e => by
      have e : some (rd.length - n - 1) = some m := e
      injection e with e; omega⟩, hs⟩
theorem nextVs_none {one other : List Pat} (h1 : OkP one) (h2 : OkP other) {rd : List Nat} {c : Nat} :
    nextVs one other (lawView one other rd none) c = [lawView one other (rd ++ [c]) none, lawView one other (rd ++ [c]) (some rd.length)] ∧ nextPs one other (lawView one other rd none) c = [] := by
  have nv := law_next h1 h2 (rd := rd) (c := c) (g := none) (fun n e => nomatch e)
  have hs : settled one other (lawView one other rd none) c = false := decide_eq_false (Nat.not_lt_zero _)
  unfold nextVs nextPs
  rw [hs, if_neg Bool.false_ne_true, if_neg Bool.false_ne_true, if_pos (show (lawView one other rd none).b = none from rfl), nv]
  exact ⟨rfl, rfl⟩
theorem nextVs_some {one other : List Pat} (h1 : OkP one) (h2 : OkP other) {rd : List Nat} {c n : Nat} (hn : n + 1 ≤ rd.length) :
    ((tailOf (begs (one ++ other)) (rd ++ [c])).length < (rd ++ [c]).length - n - 1 → nextVs one other (lawView one other rd (some n)) c = [] ∧ nextPs one other (lawView one other rd (some n)) c = [(numA (rd ++ [c]) (n + 1) 0 one, numA (rd ++ [c]) (n + 1) 0 other)]) ∧
    (¬ (tailOf (begs (one ++ other)) (rd ++ [c])).length < (rd ++ [c]).length - n - 1 → nextVs one other (lawView one other rd (some n)) c = [lawView one other (rd ++ [c]) (some n)] ∧ nextPs one other (lawView one other rd (some n)) c = []) := by
  have nv := law_next h1 h2 (rd := rd) (c := c) (g := some n) (fun m e => by injection e with e; omega)
  have nv : nextV one other (lawView one other rd (some n)) c = lawView one other (rd ++ [c]) (some n) := nv
  have hl : (rd ++ [c]).length = rd.length + 1 := by simp
  have hs : settled one other (lawView one other rd (some n)) c = decide ((tailOf (begs (one ++ other)) (rd ++ [c])).length < (rd ++ [c]).length - n - 1) := by
    unfold settled
    rw [nv]
    show decide ((tailOf (begs (one ++ other)) (rd ++ [c])).length < rd.length - n - 1 + 1) = _
    rw [hl, show rd.length - n - 1 + 1 = rd.length + 1 - n - 1 by omega]
  have hb : ¬ ((lawView one other rd (some n)).b = none) := fun z => nomatch z
  constructor
  · intro h
    unfold nextVs nextPs
    rw [hs, if_pos (decide_eq_true h), if_pos (decide_eq_true h), nv]
    exact ⟨rfl, rfl⟩
  · intro h
    have hs' : settled one other (lawView one other rd (some n)) c = false := by rw [hs]; exact decide_eq_false h
    unfold nextVs nextPs
    rw [hs', if_neg Bool.false_ne_true, if_neg Bool.false_ne_true, if_neg hb, nv]
    exact ⟨rfl, rfl⟩
abbrev s_law_values : Stmt := top 14
theorem sc_law_values : FnScope ["_law_patterns", "_law_word"] ["_law_patterns", "_law_word"] (defScope s_law_values) := ⟨rfl, rfl, rfl, by decide +kernel, rfl, by decide +kernel, by decide +kernel⟩
abbrev s_law_read : Stmt := top 16
theorem sc_law_read : FnScope ["_law_one", "_law_other", "_law_word", "_law_open_views", "_law_settled", "_law_k", "_law_gap", "_law_views", "_law_pairs"] ["_law_one", "_law_other", "_law_word"] (defScope s_law_read) := ⟨rfl, rfl, rfl, by decide +kernel, rfl, by decide +kernel, by decide +kernel⟩
theorem frame_eq (w : List Nat) : [46] ++ w ++ [46] = frame w := by simp [frame]
theorem frame_rd (w : List Nat) (i : Nat) : frame w = rdW w i ++ (w.drop i ++ [46]) := by
  unfold frame rdW
  rw [List.cons_append, ← List.append_assoc, List.take_append_drop]
def vdat (v : View) : List V := [.str (S v.t), bV v.b, .int v.i, .int v.j]
def pdat (p : Int × Int) : List V := [.int p.1, .int p.2]
/-- the values of a gap by both lists -/
def finP (one other : List Pat) (w : List Nat) (g : Nat) : Int × Int := (numA (frame w) (g + 1) 0 one, numA (frame w) (g + 1) 0 other)
def gO (g : Nat) : Option Nat := if g = 0 then none else some g
theorem Tb.len {α : Type} {dat : α → List V} {H : Hp} {kvs : List (Key × V)} {f : Nat → Option α} (x : Tb dat H kvs f) {B : Nat} (h : ∀ n, (f n).isSome = true → n < B) : kvs.length ≤ B := by
  obtain ⟨ns, h1, h2, h3⟩ := x.keys
  have : kvs.length = ns.length := by rw [← List.length_map (f := (·.1)), h1, List.length_map]
  rw [this]
  exact nodup_lt B ns h2 fun n hn => h n ((h3 n).mp hn)
theorem Tb.congr {α : Type} {dat : α → List V} {H : Hp} {kvs : List (Key × V)} {f g : Nat → Option α} (x : Tb dat H kvs f) (h : ∀ n, f n = g n) : Tb dat H kvs g := by
  have : f = g := funext h
  exact this ▸ x
theorem i_dget {td ty : TE} {σ : St} {H : Hp} {Q : VK} (h : td σ H fun x H1 => ty σ H1 fun y H2 => ∃ a v, x = .ref a ∧ DGet H2 a y (some v) ∧ Q v H2) : tDGet td ty σ H Q := h
theorem i_dpop1 {td ty : TE} {σ : St} {H : Hp} {Q : VK} (h : td σ H fun x H1 => ∃ a, x = .ref a ∧ IsD H1 a ∧ ty σ H1 fun y H2 => ∃ kvs k v, H2 a = some (.dK kvs) ∧ y = kV k ∧ valV kvs k = some v ∧ Q v (upd H2 a (.dK (dropK kvs k)))) : tDPop1 td ty σ H Q := h
theorem Tb.get {α : Type} {dat : α → List V} {H : Hp} {kvs : List (Key × V)} {f : Nat → Option α} (x : Tb dat H kvs f) {d : Addr} (e : H d = some (.dK kvs)) {n : Nat} {a : α} (h : f n = some a) : ∃ t, DGet H d (.int (n : Int)) (some (.ref t)) ∧ H t = some (.tup (dat a)) := by
  obtain ⟨t, h1, h2⟩ := x.at_ n a h
  refine ⟨t, ?_, h2⟩
  have := DGet.k (k := nk n) e
  rw [h1] at this
  exact this
def spVals : Sp := fun vs H Q _ => ∃ (v : V) (xs : List Pat) (w : List Nat), vs = [v, .str (S w)] ∧ Is H v (patsD xs) ∧ OkP xs ∧ 1 ≤ w.length ∧ w.length ≤ 100 ∧ ∀ (r : Addr) (H' : Hp), H r = none → H' r = some (.lst ((vals xs w).map V.int)) → Same H H' → Q (.ref r) H'
def spRead : Sp := fun vs H Q _ => ∃ (a b : Addr) (one other : List Pat) (w : List Nat), vs = [.ref a, .ref b, .str (S w)] ∧ Two H a b one other ∧ 1 ≤ w.length ∧ w.length ≤ 20 ∧
  ∀ (d : Addr) (kvs : List (Key × V)) (f : Nat → Option (Int × Int)) (H' : Hp), H' d = some (.dK kvs) → Tb pdat H' kvs f → (∀ g, f g = if 1 ≤ g ∧ g < w.length then some (finP one other w g) else none) → Same H H' → Q (.ref d) H'
/-- how the tables stand when so many letters were read -/
structure Rd31 (one other : List Pat) (w : List Nat) (i : Nat) (fo : Nat → Option View) (fs : Nat → Option (Int × Int)) : Prop where
  o0 : fo 0 = some (lawView one other (rdW w i) none)
  s0 : fs 0 = none
  hi : ∀ g, i < g → fo g = none ∧ fs g = none
  lo : ∀ g, 1 ≤ g → g ≤ i → (fo g = some (lawView one other (rdW w i) (some g)) ∧ fs g = none) ∨ (fo g = none ∧ g < w.length ∧ fs g = some (finP one other w g))
/-- .. amid a letter: those of ds are done -/
structure Mid31 (one other : List Pat) (w : List Nat) (i : Nat) (fo : Nat → Option View) (fs : Nat → Option (Int × Int)) (ds : List Int) (fo' : Nat → Option View) (fs' : Nat → Option (Int × Int)) : Prop where
  o0 : fo' 0 = some (lawView one other (rdW w (if (0 : Int) ∈ ds then i + 1 else i)) none)
  n0 : fo' (i + 1) = if (0 : Int) ∈ ds then some (lawView one other (rdW w (i + 1)) (some (i + 1))) else none
  s0 : fs' 0 = none
  hi : ∀ g, i + 1 < g → fo' g = none
  his : ∀ g, i < g → fs' g = none
  no : ∀ g, 1 ≤ g → g ≤ i → ¬ (g : Int) ∈ ds → fo' g = fo g ∧ fs' g = fs g
  yes : ∀ g, 1 ≤ g → g ≤ i → (g : Int) ∈ ds → (fo' g = some (lawView one other (rdW w (i + 1)) (some g)) ∧ fs' g = none) ∨ (fo' g = none ∧ g < w.length ∧ fs' g = some (finP one other w g))
theorem Mid31.none {one other : List Pat} {w : List Nat} {i : Nat} {fo : Nat → Option View} {fs : Nat → Option (Int × Int)} (R : Rd31 one other w i fo fs) : Mid31 one other w i fo fs [] fo fs :=
  ⟨by simpa using R.o0, by simpa using (R.hi (i + 1) (by omega)).1, R.s0, fun g hg => (R.hi g (by omega)).1, fun g hg => (R.hi g hg).2, fun _ _ _ _ => ⟨rfl, rfl⟩, fun g _ _ h => nomatch h⟩
theorem Mid31.all {one other : List Pat} {w : List Nat} {i : Nat} {fo fo' : Nat → Option View} {fs fs' : Nat → Option (Int × Int)} {ds : List Int} (R : Rd31 one other w i fo fs) (M : Mid31 one other w i fo fs ds fo' fs')
    (hd : ∀ g : Nat, (fo g).isSome = true → (g : Int) ∈ ds) : Rd31 one other w (i + 1) fo' fs' := by
  have h0 : (0 : Int) ∈ ds := hd 0 (by rw [R.o0]; rfl)
  refine ⟨by rw [M.o0, if_pos h0], M.s0, fun g hg => ⟨M.hi g hg, M.his g (by omega)⟩, fun g h1 h2 => ?_⟩
  by_cases e : g = i + 1
  · subst e
    exact .inl ⟨by rw [M.n0, if_pos h0], M.his _ (by omega)⟩
  · by_cases hm : (g : Int) ∈ ds
    · exact M.yes g h1 (by omega) hm
    · obtain ⟨e1, e2⟩ := M.no g h1 (by omega) hm
      rcases R.lo g h1 (by omega) with ⟨a, _⟩ | ⟨a, b, c⟩
      · exact absurd (hd g (by rw [a]; rfl)) hm
      · exact .inr ⟨e1.trans a, b, e2.trans c⟩
section
variable {P : Program} {w : World} {K : PySem.W.Frag} {mg : Str → Option Value} {base : Heap} {f : Addr} {fd : FuncData} {tk : Nat → Tok} {cO : Addr}
theorem ok_law_values (T : Txt mg tk) (F : Fun K "_law_values" "_law_values" s_law_values f fd) (D_law_greatest : Dn P w K mg base "_law_greatest" 1 ["_law_patterns", "_law_read_here", "_law_place"] spGreat) : FnOk P w K mg base CX0 2 f fd ["_law_patterns", "_law_word"] spVals := by
  refine F.ok sc_law_values (fun vs H Q E h => ?_) (fun cdv A outer s H vs Q E hr h => ?_)
  · obtain ⟨v, xs, w, rfl, _⟩ := h
    rfl
  obtain ⟨v, xs, w', rfl, hv, hok, hw1, hw2, q⟩ := h
  have nd := sc_law_values.nd
  refine ⟨_, (pss_one (ps_ret (pe_comp ["_law_patterns", "_law_word", "_law_gap"] [some 0, some 1, none] rfl (by kernel_rfl) rfl (pi_range2 rfl T.z_range (pa_cons pe_int (pa_cons (pe_callB (c_len (K := K)) rfl T.z_len (by decide +kernel) (pa_cons (pv 1) pa_nil)) pa_nil))) (fun _ _ _ _ => (pg_name (i := 2) (show (["_law_patterns", "_law_word", "_law_gap"] : List Str).Nodup by decide +kernel) rfl (Or.inl rfl) (Or.inr rfl))) (fun _ _ _ _ => pts_nil) (fun _ _ _ _ => (pe_callD D_law_greatest (hr.mono (by first | decide | omega)) rfl (pa_cons (pv 0) (pa_cons (pe_op o_add (pe_op o_add pe_str (pv 1)) pe_str) (pa_cons (pe_op o_add (pv 2) pe_int) pa_nil)))))))), ?_⟩
  rw [show L2.start ["_law_patterns", "_law_word"] [v, .str (S w')] = [some (v), some (.str (S w'))] from rfl]
  rw [t_dot]
  have hfl := frame_length w'
  walk_at "go"
  intro r hr0
  refine comp_range (fun j acc σ H' => ∃ u, σ = [some v, some (.str (S w')), u] ∧ acc = ((List.range j).map fun k : Nat => numA (frame w') (k + 2) 0 xs).map V.int ∧ H' r = some (.lst acc) ∧ Same H H')
    ⟨none, rfl, rfl, upd_same, same_new hr0 _⟩ (fun j acc σ H' ⟨_, _, e, e3, _⟩ => ⟨e3, by rw [e]; simp⟩) (szn (by omega)) ?_ ?_
  · rintro j acc σ H3 hj ⟨u, rfl, rfl, e3, s3⟩
    walk_at "go"
    rw [frame_eq]
    refine ⟨v, xs, frame w', j + 2, by rw [show (1 + (j : Int) + 1) = ((j + 2 : Nat) : Int) by omega]; rfl, Is.same s3 hv, hok, by omega, by omega, e3, _, rfl, ?_, upd_same, fun b' o e => ?_⟩
    · rw [List.range_succ, List.map_append, List.map_append]; rfl
    · have hbr : b' ≠ r := fun z => by rw [z, hr0] at e; cases e
      rw [upd_ne hbr]; exact s3 b' o e
  · rintro acc σ H3 ⟨u, rfl, rfl, e3, s3⟩
    refine q r H3 hr0 ?_ s3
    rw [e3]
    have : ((w'.length : Int) - 1).toNat = w'.length - 1 := by omega
    rw [this]
    rfl
end
section
variable {P : Program} {w : World} {K : PySem.W.Frag} {mg : Str → Option Value} {base : Heap} {f : Addr} {fd : FuncData} {tk : Nat → Tok} {cO : Addr}
theorem ok_law_read (T : Txt mg tk) (F : Fun K "_law_read" "_law_read" s_law_read f fd) (D_first_view : Dn P w K mg base "first_view" 4 ["one", "other"] spFirstV) (D_next_views : Dn P w K mg base "next_views" 4 ["one", "other", "view", "letter"] spNextV) (D_last_pairs : Dn P w K mg base "last_pairs" 4 ["one", "other", "view"] spLastP) : FnOk P w K mg base CX0 5 f fd ["_law_one", "_law_other", "_law_word"] spRead := by
  refine F.ok sc_law_read (fun vs H Q E h => ?_) (fun cdv A outer s H vs Q E hr h => ?_)
  · obtain ⟨a, b, one, other, w, rfl, _⟩ := h
    rfl
  obtain ⟨a, b, one, other, w', rfl, t2, hw1, hw2, q⟩ := h
  obtain ⟨ho1, ho2⟩ : OkP one ∧ OkP other := t2.ok
  have nd := sc_law_read.nd
  have hSw : (S w').length ≤ sizeLine := szn (by rw [S_length]; omega)
  refine ⟨_, (pss_cons (ps_set (i := 3) nd rfl (Or.inl rfl) (pe_disp (pps_cons pe_int (pe_callD D_first_view (hr.mono (by first | decide | omega)) rfl (pa_cons (pv 0) (pa_cons (pv 1) pa_nil))) pps_nil) rfl rfl (by simp) (by decide)))
    (pss_cons (ps_set (i := 4) nd rfl (Or.inl rfl) pe_dnewK)
    (pss_cons (ps_for PassesOwn.never rfl (pi_range2 rfl T.z_range (pa_cons pe_int (pa_cons (pe_op o_add (pe_callB (c_len (K := K)) rfl T.z_len (by decide +kernel) (pa_cons (pv 2) pa_nil)) pe_int) pa_nil))) (pg_name (i := 5) nd rfl (Or.inl rfl))
     (pss_one (ps_for PassesOwn.never rfl (pi_any (K := K) (pe_callB (c_sortD rfl) rfl T.z_sorted (by decide +kernel) (pa_cons (pv 3) pa_nil))) (pg_name (i := 6) nd rfl (Or.inl rfl))
     (pss_cons (ps_asg (pe_callD D_next_views (hr.mono (by first | decide | omega)) rfl (pa_cons (pv 0) (pa_cons (pv 1) (pa_cons (pe_dget (hu_of hr) (pv 3) (pv 6) (fun _ _ => rfl)) (pa_cons (pe_ix (ix_any (K := K)) (pv 2) (pe_op o_sub (pv 5) pe_int) (fun _ _ => rfl)) pa_nil))))) (pg_tup rfl (pgs_cons (pg_name (i := 7) nd rfl (Or.inl rfl)) (pgs_cons (pg_name (i := 8) nd rfl (Or.inl rfl)) pgs_nil))))
    (pss_one (ps_if (PW.pt (pw_and (pt_cmpR (o_eq hr.units) (pe_callB (c_len (K := K)) rfl T.z_len (by decide +kernel) (pa_cons (pv 8) pa_nil)) pe_int (nomark _)) (pw_and (pt_cmpR o_gt (pv 6) pe_int (nomark _)) (pw_and1 (pt_cmpR (o_eq hr.units) (pv 7) (pe_lst pa_nil) (nomark _))))))
     (pss_cons (ps_dput (hu_of hr) (pv 4) (pv 6) (pe_ix (ix_any (K := K)) (pv 8) pe_int (fun _ _ => rfl)) rfl)
    (pss_one (ps_expr (pe_dpop1 (pv 3) (pv 6) ⟨rfl, rfl, rfl, rfl⟩))))
     (pss_one (ps_if (PW.pt (pw_or (pt_cmpR o_gt (pe_callB (c_len (K := K)) rfl T.z_len (by decide +kernel) (pa_cons (pv 8) pa_nil)) pe_int (nomark _)) (pw_or1 (pt_cmpR (o_ne hr.units) (pe_callB (c_len (K := K)) rfl T.z_len (by decide +kernel) (pa_cons (pv 7) pa_nil)) (pe_op o_add pe_int (pe_callTy c_int rfl T.z_int (by decide +kernel) (pa_cons (pe_cmpR (o_eq hr.units) (pv 6) pe_int (nomark _)) pa_nil))) (nomark _)))))
     (pss_one (ps_ret pe_non))
     (pss_cons (ps_dput (hu_of hr) (pv 3) (pv 6) (pe_ix (ix_any (K := K)) (pv 7) pe_int (fun _ _ => rfl)) rfl)
    (pss_one (ps_if (pt_cmpR (o_eq hr.units) (pv 6) pe_int (nomark _))
     (pss_one (ps_dput (hu_of hr) (pv 3) (pv 5) (pe_ix (ix_any (K := K)) (pv 7) pe_int (fun _ _ => rfl)) rfl))
     pss_nil)))))))))))
    (pss_cons (ps_for PassesOwn.never rfl (pi_any (K := K) (pe_callB (c_sortD rfl) rfl T.z_sorted (by decide +kernel) (pa_cons (pv 3) pa_nil))) (pg_name (i := 6) nd rfl (Or.inl rfl))
     (pss_cons (ps_set (i := 8) nd rfl (Or.inl rfl) (pe_callD D_last_pairs (hr.mono (by first | decide | omega)) rfl (pa_cons (pv 0) (pa_cons (pv 1) (pa_cons (pe_dget (hu_of hr) (pv 3) (pv 6) (fun _ _ => rfl)) pa_nil)))))
    (pss_cons (ps_if (pt_cmpR (o_ne hr.units) (pe_callB (c_len (K := K)) rfl T.z_len (by decide +kernel) (pa_cons (pv 8) pa_nil)) (pe_callTy c_int rfl T.z_int (by decide +kernel) (pa_cons (pe_chain o_lt o_lt pe_int (pv 6) (pe_callB (c_len (K := K)) rfl T.z_len (by decide +kernel) (pa_cons (pv 2) pa_nil))) pa_nil)) (nomark _))
     (pss_one (ps_ret pe_non))
     pss_nil)
    (pss_one (ps_if (pt_cmpR (o_eq hr.units) (pe_callB (c_len (K := K)) rfl T.z_len (by decide +kernel) (pa_cons (pv 8) pa_nil)) pe_int (nomark _))
     (pss_one (ps_dput (hu_of hr) (pv 4) (pv 6) (pe_ix (ix_any (K := K)) (pv 8) pe_int (fun _ _ => rfl)) rfl))
     pss_nil)))))
    (pss_one (ps_ret (pv 4))))))), ?_⟩
  rw [show L2.start ["_law_one", "_law_other", "_law_word", "_law_open_views", "_law_settled", "_law_k", "_law_gap", "_law_views", "_law_pairs"] [.ref a, .ref b, .str (S w')] = [some (.ref a), some (.ref b), some (.str (S w')), none, none, none, none, none, none] from rfl]
  walk_at "go"
  refine i_disp fun od hod => ?_
  simp only [tPairs]
  walk_at "go"
  have s1 := same_new hod (.dK [])
  refine ⟨a, b, one, other, rfl, t2.same s1, fun v1 H2 ev1 s2 => ?_⟩
  walk_at "go"
  have eo2 : H2 od = some (.dK []) := s2 _ _ upd_same
  refine ⟨eo2, [(nk 0, .ref v1)], rfl, (show 1 ≤ 15 by decide), ?_⟩
  have s02 : Same H H2 := s1.trans s2
  have hm : mergeK [] [((nk 0 : Key), V.ref v1)] = putK [] (nk 0) (.ref v1) := rfl
  rw [hm]
  have ev1' : H2 v1 = some (.tup (vdat (lawView one other (rdW w' 0) none))) := ev1
  have to2 : Tb vdat H2 (putK [] (nk 0) (.ref v1)) (fun m => if m = 0 then some (lawView one other (rdW w' 0) none) else none) := Tb.none.put ev1'
  have k2 : Tk H2 (upd H2 od (.dK (putK [] (nk 0) (.ref v1)))) := fun b xs e => by
    have hb : b ≠ od := fun z => by rw [z, eo2] at e; cases e
    rw [upd_ne hb]; exact e
  have to3 := to2.tk k2
  have s03 : Same H (upd H2 od (.dK (putK [] (nk 0) (.ref v1)))) := fun b o e => by
    have hb : b ≠ od := fun z => by rw [z, hod] at e; cases e
    rw [upd_ne hb]; exact s02 _ _ e
  have eo3 := upd_same (H := H2) (a := od) (o := .dK (putK [] (nk 0) (.ref v1)))
  generalize upd H2 od (.dK (putK [] (nk 0) (.ref v1))) = H3 at k2 to3 s03 eo3 ⊢
  walk_at "go"
  refine i_dnewK fun sd hsd => ?_
  have s4 := same_new hsd (.dK [])
  have eo4 := s4 _ _ eo3
  have to4 := to3.tk s4.tk
  have es4 := upd_same (H := H3) (a := sd) (o := .dK [])
  have ts4 : Tb pdat (upd H3 sd (.dK [])) [] (fun _ => none) := Tb.none
  have s04 := s03.trans s4
  have hosd : od ≠ sd := ne_of_none eo3 hsd
  have hsdH : H sd = none := s03.free hsd
  generalize upd H3 sd (.dK []) = H4 at s4 eo4 to4 es4 ts4 s04 ⊢
  clear s4 to3 k2 to2 ev1 ev1' s02 s2 s1 eo2 hm
  -- storing to either table
  have stO : ∀ {H1 : Hp} {kv kvs : List (Key × V)} , H1 od = some (.dK kv) → Same H H1 → Same H (upd H1 od (.dK kvs)) := fun {H1 kv kvs} e s b o eb => by
    have hb : b ≠ od := fun z => by rw [z, hod] at eb; cases eb
    rw [upd_ne hb]; exact s _ _ eb
  have stS : ∀ {H1 : Hp} {kvs : List (Key × V)} , Same H H1 → Same H (upd H1 sd (.dK kvs)) := fun {H1 kvs} s b o eb => by
    have hb : b ≠ sd := fun z => by rw [z, hsdH] at eb; cases eb
    rw [upd_ne hb]; exact s _ _ eb
  have tkD : ∀ {H1 : Hp} {d : Addr} {kv kvs : List (Key × V)}, H1 d = some (.dK kv) → Tk H1 (upd H1 d (.dK kvs)) := fun {H1 d kv kvs} e b xs eb => by
    have hb : b ≠ d := fun z => by rw [z, e] at eb; cases eb
    rw [upd_ne hb]; exact eb
  walk_at "go"
  refine for_range (fun i σ H' => ∃ (kvo kvs : List (Key × V)) (fo : Nat → Option View) (fs : Nat → Option (Int × Int)) (v5 v6 v7 v8 : Option V), σ = [some (.ref a), some (.ref b), some (.str (S w')), some (.ref od), some (.ref sd), v5, v6, v7, v8] ∧ H' od = some (.dK kvo) ∧ H' sd = some (.dK kvs) ∧ Tb vdat H' kvo fo ∧ Tb pdat H' kvs fs ∧ Rd31 one other w' i fo fs ∧ Same H H')
    ⟨_, _, _, _, none, none, none, none, rfl, eo4, es4, to4, ts4, ⟨rfl, rfl, fun g hg => ⟨if_neg (by omega), rfl⟩, fun g h1 h2 => absurd h1 (by omega)⟩, s04⟩ ?_ ?_
  · rintro i σ H1 hi ⟨kvo, kvs, fo, fs, v5, v6, v7, v8, rfl, eo, es, to, ts, R, s1⟩
    have hil : i < w'.length := by omega
    have hk : (1 + (i : Int)) = ((i + 1 : Nat) : Int) := by omega
    rw [hk]
    obtain ⟨ns, hn1, hn2, hn3⟩ := to.keys
    have hnb : ∀ n ∈ ns, n ≤ i := fun n hn => by
      have h := (hn3 n).mp hn
      by_cases hle : n ≤ i
      · exact hle
      · rw [(R.hi n (by omega)).1] at h; cases h
    have hnl := nodup_lt (i + 1) ns hn2 fun n hn => Nat.lt_succ_of_le (hnb n hn)
    have hkeys : kvo.map (·.1) = (ns.map fun n : Nat => (n : Int)).map Sum.inl := by rw [hn1, List.map_map]; rfl
    walk_at "go"
    refine sortDI eo hkeys (by rw [List.length_map]; omega) fun mq ms hmq hperm hsort => ?_
    have hmm : ∀ x ∈ ms, ∃ g : Nat, x = (g : Int) ∧ g ∈ ns := fun x hx => by
      obtain ⟨g, hg, e⟩ := List.mem_map.mp (hperm.mem_iff.mp hx)
      exact ⟨g, e.symm, hg⟩
    have hmd : ms.Nodup := hperm.nodup_iff.mpr (List.Pairwise.map (fun n : Nat => (n : Int)) (fun a b h e => h (by omega)) hn2)
    have hml : ms.length ≤ 21 := by rw [hperm.length_eq, List.length_map]; omega
    have s5 := same_new hmq (.lst (ms.map V.int))
    have em := upd_same (H := H1) (a := mq) (o := .lst (ms.map V.int))
    have eo5 := s5 _ _ eo
    have es5 := s5 _ _ es
    have to5 := to.tk s5.tk
    have ts5 := ts.tk s5.tk
    have s05 := s1.trans s5
    have nmo : mq ≠ od := fun z => by rw [z, eo] at hmq; cases hmq
    have nms : mq ≠ sd := fun z => by rw [z, es] at hmq; cases hmq
    generalize upd H1 mq (.lst (ms.map V.int)) = H5 at s5 em eo5 es5 to5 ts5 s05 ⊢
    have hrl := rdW_len (w := w') (m := i + 1) (by omega)
    have hrl0 := rdW_len (w := w') (m := i) (by omega)
    have hrs := rdW_succ hil
    walk_at "go"
    refine for_list (K := K) (xs := ms.map V.int) (fun j σ H' => ∃ (kvo' kvs' : List (Key × V)) (fo' : Nat → Option View) (fs' : Nat → Option (Int × Int)) (v6 v7 v8 : Option V), σ = [some (.ref a), some (.ref b), some (.str (S w')), some (.ref od), some (.ref sd), some (.int ((i + 1 : Nat) : Int)), v6, v7, v8] ∧ H' mq = some (.lst (ms.map V.int)) ∧ H' od = some (.dK kvo') ∧ H' sd = some (.dK kvs') ∧ Tb vdat H' kvo' fo' ∧ Tb pdat H' kvs' fs' ∧ Mid31 one other w' i fo fs (ms.take j) fo' fs' ∧ Same H H')
      ⟨_, _, _, _, _, _, _, rfl, em, eo5, es5, to5, ts5, by simpa using Mid31.none R, s05⟩ (fun j σ H' _ ⟨_, _, _, _, _, _, _, _, e, _⟩ => SqL.of e) ?_ ?_
    · rintro j x σ H6 hx ⟨kvo', kvs', fo', fs', v6, v7, v8, rfl, em6, eo6, es6, to6, ts6, M, s6⟩
      have hjl : j < ms.length := by
        have := (List.getElem?_eq_some_iff.mp hx).1
        simpa using this
      rw [List.getElem?_map, List.getElem?_eq_getElem hjl] at hx
      cases hx
      obtain ⟨g, hgx, hgn⟩ := hmm _ (List.getElem_mem hjl)
      have htake : ms.take (j + 1) = ms.take j ++ [(g : Int)] := by rw [List.take_succ, List.getElem?_eq_getElem hjl, ← hgx]; rfl
      have hnot : ¬ (g : Int) ∈ ms.take j := fun hmem => by
        obtain ⟨k, hk1, hk2⟩ := List.mem_iff_getElem.mp hmem
        rw [List.length_take] at hk1
        rw [List.getElem_take, ← hgx] at hk2
        have := (List.getElem_inj hmd).mp hk2
        omega
      rw [hgx, htake]
      generalize ms.take j = ds at M hnot ⊢
      have hgi := hnb g hgn
      have hgs := (hn3 g).mp hgn
      have hmem : ∀ x : Int, x ∈ ds ++ [(g : Int)] ↔ x ∈ ds ∨ x = (g : Int) := fun x => by rw [List.mem_append, List.mem_singleton]
      have hBo : ∀ n, (fo' n).isSome = true → n < 22 := fun n hn => by
        by_cases hle : n ≤ i + 1
        · omega
        · rw [M.hi n (by omega)] at hn; cases hn
      have hBs : ∀ n, (fs' n).isSome = true → n < 22 := fun n hn => by
        by_cases hle : n ≤ i
        · omega
        · rw [M.his n (by omega)] at hn; cases hn
      have hlo := Tb.len to6 hBo
      have hls := Tb.len ts6 hBs
      have hzo : kvo'.length < sizeLine := szn (by omega)
      have hzs : kvs'.length < sizeLine := szn (by omega)
      -- the view at this gap
      have hview : fo' g = some (lawView one other (rdW w' i) (gO g)) := by
        unfold gO
        by_cases h0 : g = 0
        · subst h0
          have hn0 : ¬ (0 : Int) ∈ ds := hnot
          rw [if_pos rfl, M.o0, if_neg hn0]
        · rw [if_neg h0, (M.no g (by omega) hgi hnot).1]
          rcases R.lo g (by omega) hgi with ⟨e, _⟩ | ⟨e, _⟩
          · exact e
          · rw [e] at hgs; cases hgs
      obtain ⟨t, ht1, ht2⟩ := Tb.get to6 eo6 hview
      obtain ⟨okv, _⟩ : OkV (lawView one other (rdW w' i) (gO g)) ∧ True := by
        refine ⟨?_, trivial⟩
        have hl := (tailOf_suf (begs (one ++ other)) (rdW w' i)).length_le
        unfold gO
        by_cases h0 : g = 0
        · rw [if_pos h0]; exact ⟨by show (tailOf _ _).length ≤ 100; omega, fun n e => nomatch e⟩
        · rw [if_neg h0]; exact ⟨by show (tailOf _ _).length ≤ 100; omega, fun n e => by
            have e : some ((rdW w' i).length - g - 1) = some n := e
            injection e with e; omega⟩
      walk_at "go"
      refine i_dget ?_
      walk_at "go"
      refine ⟨od, .ref t, rfl, ht1, ?_⟩
      walk_at "go"
      refine i_ixS (c := w'[i]) hSw (atI_of (by omega) (by rw [S_cps, show (((i + 1 : Nat) : Int) - 1).toNat = i by omega, List.getElem?_eq_getElem hil])) ?_
      walk_at "go"
      refine ⟨a, b, t, one, other, lawView one other (rdW w' i) (gO g), w'[i], rfl, t2.same s6, okv, ht2, fun fr lv lp zs us H7 efr elv elp hvp hlv0 hlp0 hzs7 hus7 s7 => ?_⟩
      have em7 := s7 _ _ em6
      have eo7 := s7 _ _ eo6
      have es7 := s7 _ _ es6
      have to7 := to6.tk s7.tk
      have ts7 := ts6.tk s7.tk
      have s07 := s6.trans s7
      refine i_gtup efr rfl (i_gcons (i_name (i_gcons (i_name (i_gnil ?_)))))
      clear s7 s6 em6 eo6 es6 to6 ts6 ht1 ht2
      by_cases h0 : g = 0
      · subst h0
        have hg0 : gO 0 = none := rfl
        rw [hg0] at hzs7 hus7
        obtain ⟨hN1, hN2⟩ := nextVs_none ho1 ho2 (rd := rdW w' i) (c := w'[i])
        rw [hN1, ← hrs, hrl0] at hzs7
        rw [hN2] at hus7
        obtain ⟨z1, z2, rfl⟩ : ∃ z1 z2, zs = [z1, z2] := by
          have := hzs7.length
          match zs, this with
          | [z1, z2], _ => exact ⟨z1, z2, rfl⟩
        obtain rfl : us = [] := by
          have := hus7.length
          match us, this with
          | [], _ => rfl
        simp only [List.map_cons, List.map_nil, L2.IsL] at hzs7
        obtain ⟨x1, rfl, hx1⟩ := isView hzs7.1
        obtain ⟨x2, rfl, hx2⟩ := isView hzs7.2.1
        have hx1 : H7 x1 = some (.tup (vdat (lawView one other (rdW w' (i + 1)) none))) := hx1
        have hx2 : H7 x2 = some (.tup (vdat (lawView one other (rdW w' (i + 1)) (some (i + 1))))) := hx2
        walk_at "go"
        refine i_dput ?_
        walk_at "go"
        refine ⟨od, _, rfl, DPut.k (k := nk 0) eo7 hzo, ?_⟩
        have to8 := (to7.put (n := 0) hx1).tk (tkD (kvs := putK kvo' (nk 0) (.ref x1)) eo7)
        have ts8 := ts7.tk (tkD (kvs := putK kvo' (nk 0) (.ref x1)) eo7)
        have hx28 := tkD (kvs := putK kvo' (nk 0) (.ref x1)) eo7 _ _ hx2
        have eo8 := upd_same (H := H7) (a := od) (o := .dK (putK kvo' (nk 0) (.ref x1)))
        have es8 : (upd H7 od (.dK (putK kvo' (nk 0) (.ref x1)))) sd = some (.dK kvs') := by rw [upd_ne hosd.symm]; exact es7
        have em8 : (upd H7 od (.dK (putK kvo' (nk 0) (.ref x1)))) mq = some (.lst (ms.map V.int)) := by rw [upd_ne nmo]; exact em7
        have elv8 : (upd H7 od (.dK (putK kvo' (nk 0) (.ref x1)))) lv = some (.lst [.ref x1, .ref x2]) := by rw [upd_ne (ne_of elv eo7 (by intro z; cases z))]; exact elv
        have s08 := stO (kvs := putK kvo' (nk 0) (.ref x1)) eo7 s07
        have hl8 := Tb.len to8 (B := 22) fun n hn => by
          by_cases e : n = 0
          · omega
          · simp only [if_neg e] at hn; exact hBo n hn
        generalize upd H7 od (.dK (putK kvo' (nk 0) (.ref x1))) = H8 at to8 ts8 hx28 eo8 es8 em8 elv8 s08 ⊢
        walk_at "go"
        refine i_dput ?_
        walk_at "go"
        refine ⟨od, _, rfl, DPut.k (k := nk (i + 1)) eo8 (szn (by omega)), ?_⟩
        have to9 := (to8.put (n := i + 1) hx28).tk (tkD (kvs := putK (putK kvo' (nk 0) (.ref x1)) (nk (i + 1)) (.ref x2)) eo8)
        refine ⟨_, kvs', _, fs', _, _, _, rfl, by rw [upd_ne nmo]; exact em8, upd_same, by rw [upd_ne hosd.symm]; exact es8, to9, ts8.tk (tkD eo8), ?_, stO eo8 s08⟩
        refine ⟨?_, ?_, M.s0, fun g hg => ?_, M.his, fun g h1 h2 h3 => ?_, fun g h1 h2 h3 => ?_⟩
        · rw [if_pos ((hmem 0).mpr (.inr rfl))]
          simp
        · rw [if_pos ((hmem 0).mpr (.inr rfl))]
          simp
        · rw [if_neg (by omega), if_neg (by omega)]; exact M.hi g hg
        · obtain ⟨e1, e2⟩ := M.no g h1 h2 fun z => h3 ((hmem _).mpr (.inl z))
          refine ⟨?_, e2⟩
          rw [if_neg (by omega), if_neg (by omega)]; exact e1
        · have hin : (g : Int) ∈ ds := by
            rcases (hmem _).mp h3 with z | z
            · exact z
            · exfalso; omega
          rw [if_neg (by omega), if_neg (by omega)]
          exact M.yes g h1 h2 hin
      · have hg1 : gO g = some g := if_neg h0
        rw [hg1] at hzs7 hus7
        have hns := nextVs_some ho1 ho2 (rd := rdW w' i) (c := w'[i]) (n := g) (by omega)
        rw [← hrs] at hns
        have hzd : decide (V.int (g : Int) = V.int 0) = false := decide_eq_false (fun z => by injection z with z; omega)
        by_cases hset : (tailOf (begs (one ++ other)) (rdW w' (i + 1))).length < (rdW w' (i + 1)).length - g - 1
        · obtain ⟨hN1, hN2⟩ := hns.1 hset
          rw [hN1] at hzs7
          rw [hN2] at hus7
          obtain rfl : zs = [] := by
            have := hzs7.length
            match zs, this with
            | [], _ => rfl
          obtain ⟨z1, rfl⟩ : ∃ z1, us = [z1] := by
            have := hus7.length
            match us, this with
            | [z1], _ => exact ⟨z1, rfl⟩
          simp only [List.map_cons, List.map_nil, L2.IsL] at hus7
          obtain ⟨y1, rfl, hy1⟩ := isPair hus7.1
          have hf1 := settled_all (xs := one) (ys := one ++ other) (rest := w'.drop (i + 1) ++ [46]) (p := g + 1) ho1.len ho1.ne (fun x hx => List.mem_append.mpr (.inl hx)) (rd := rdW w' (i + 1)) (by omega)
          have hf2 := settled_all (xs := other) (ys := one ++ other) (rest := w'.drop (i + 1) ++ [46]) (p := g + 1) ho2.len ho2.ne (fun x hx => List.mem_append.mpr (.inr hx)) (rd := rdW w' (i + 1)) (by omega)
          rw [← frame_rd] at hf1 hf2
          have hy1 : H7 y1 = some (.tup (pdat (finP one other w' g))) := by
            rw [hy1]
            unfold pdat finP
            rw [hf1, hf2]
          walk_at "go"
          refine iteDT (by omega) ?_
          walk_at "go"
          intro ep hep
          have s8 := same_new hep (.lst [])
          have eep := upd_same (H := H7) (a := ep) (o := .lst [])
          have em8 := s8 _ _ em7
          have eo8 := s8 _ _ eo7
          have es8 := s8 _ _ es7
          have to8 := to7.tk s8.tk
          have ts8 := ts7.tk s8.tk
          have s08 := s07.trans s8
          have elp8 := s8 _ _ elp
          have elv8 := s8 _ _ elv
          have hy8 := s8 _ _ hy1
          generalize upd H7 ep (.lst []) = H8 at s8 eep em8 eo8 es8 to8 ts8 s08 elp8 elv8 hy8 ⊢
          refine i_eqD (d := .lst []) (e := .lst []) (by simp only [Is]; exact ⟨lv, _, rfl, elv8, by simp only [L2.IsL]⟩) (by simp only [Is]; exact ⟨ep, _, rfl, eep, by simp only [L2.IsL]⟩) ((Lay.lst (n := 0) (ds := []) fun d hd => nomatch hd).ok (by decide)) ((Lay.lst (n := 0) (ds := []) fun d hd => nomatch hd).ok (by decide)) ?_
          rw [show eqD (.lst []) (.lst []) = true from eqD_self (d := .lst []) ((Lay.lst (n := 0) (ds := []) fun d hd => nomatch hd).ok (by decide))]
          walk_at "go"
          refine i_dput ?_
          walk_at "go"
          refine ⟨sd, _, rfl, DPut.k (k := nk g) es8 hzs, ?_⟩
          have ts9 := (ts8.put (n := g) hy8).tk (tkD (kvs := putK kvs' (nk g) (.ref y1)) es8)
          have to9 := to8.tk (tkD (kvs := putK kvs' (nk g) (.ref y1)) es8)
          have es9 := upd_same (H := H8) (a := sd) (o := .dK (putK kvs' (nk g) (.ref y1)))
          have eo9 : (upd H8 sd (.dK (putK kvs' (nk g) (.ref y1)))) od = some (.dK kvo') := by rw [upd_ne hosd]; exact eo8
          have em9 : (upd H8 sd (.dK (putK kvs' (nk g) (.ref y1)))) mq = some (.lst (ms.map V.int)) := by rw [upd_ne nms]; exact em8
          have s09 := stS (kvs := putK kvs' (nk g) (.ref y1)) s08
          generalize upd H8 sd (.dK (putK kvs' (nk g) (.ref y1))) = H9 at ts9 to9 es9 eo9 em9 s09 ⊢
          walk_at "go"
          refine i_dpop1 ?_
          walk_at "go"
          refine ⟨od, rfl, .inl ⟨kvo', .inl eo9⟩, ?_⟩
          walk_at "go"
          obtain ⟨t', ht', _⟩ := to9.at_ g _ hview
          refine ⟨kvo', nk g, .ref t', eo9, rfl, ht', ?_⟩
          walk_at "go"
          refine ⟨_, _, _, _, _, _, _, rfl, by rw [upd_ne nmo]; exact em9, upd_same, by rw [upd_ne hosd.symm]; exact es9, (to9.drop g).tk (tkD eo9), ts9.tk (tkD eo9), ?_, stO eo9 s09⟩
          refine ⟨?_, ?_, ?_, fun g' hg' => ?_, fun g' hg' => ?_, fun g' h1 h2 h3 => ?_, fun g' h1 h2 h3 => ?_⟩
          · have h00 : ((0 : Int) ∈ ds ++ [(g : Int)]) ↔ (0 : Int) ∈ ds := by rw [hmem]; exact ⟨fun z => z.elim id fun z => by omega, .inl⟩
            rw [if_neg (Ne.symm h0)]
            simp only [h00]
            exact M.o0
          · have h00 : ((0 : Int) ∈ ds ++ [(g : Int)]) ↔ (0 : Int) ∈ ds := by rw [hmem]; exact ⟨fun z => z.elim id fun z => by omega, .inl⟩
            rw [if_neg (by omega)]
            simp only [h00]
            exact M.n0
          · rw [if_neg (Ne.symm h0)]; exact M.s0
          · rw [if_neg (by omega)]; exact M.hi g' hg'
          · rw [if_neg (by omega)]; exact M.his g' hg'
          · have hne : g' ≠ g := fun z => h3 ((hmem _).mpr (.inr (by rw [z])))
            obtain ⟨e1, e2⟩ := M.no g' h1 h2 fun z => h3 ((hmem _).mpr (.inl z))
            exact ⟨by rw [if_neg hne]; exact e1, by rw [if_neg hne]; exact e2⟩
          · by_cases hne : g' = g
            · subst hne
              rw [if_pos rfl, if_pos rfl]
              exact .inr ⟨rfl, by omega, rfl⟩
            · rw [if_neg hne, if_neg hne]
              refine M.yes g' h1 h2 ?_
              rcases (hmem _).mp h3 with z | z
              · exact z
              · exfalso; omega
        · obtain ⟨hN1, hN2⟩ := hns.2 hset
          rw [hN1] at hzs7
          rw [hN2] at hus7
          obtain ⟨z1, rfl⟩ : ∃ z1, zs = [z1] := by
            have := hzs7.length
            match zs, this with
            | [z1], _ => exact ⟨z1, rfl⟩
          obtain rfl : us = [] := by
            have := hus7.length
            match us, this with
            | [], _ => rfl
          simp only [List.map_cons, List.map_nil, L2.IsL] at hzs7
          obtain ⟨x1, rfl, hx1⟩ := isView hzs7.1
          have hx1 : H7 x1 = some (.tup (vdat (lawView one other (rdW w' (i + 1)) (some g)))) := hx1
          walk_at "go"
          refine iteBF (by rw [hzd]; rfl) ?_
          walk_at "go"
          refine i_dput ?_
          walk_at "go"
          refine ⟨od, _, rfl, DPut.k (k := nk g) eo7 hzo, ?_⟩
          have to8 := (to7.put (n := g) hx1).tk (tkD (kvs := putK kvo' (nk g) (.ref x1)) eo7)
          walk_at "go"
          refine iteBF hzd ?_
          walk_at "go"
          refine ⟨_, kvs', _, fs', _, _, _, rfl, by rw [upd_ne nmo]; exact em7, upd_same, by rw [upd_ne hosd.symm]; exact es7, to8, ts7.tk (tkD eo7), ?_, stO eo7 s07⟩
          refine ⟨?_, ?_, M.s0, fun g' hg' => ?_, M.his, fun g' h1 h2 h3 => ?_, fun g' h1 h2 h3 => ?_⟩
          · have h00 : ((0 : Int) ∈ ds ++ [(g : Int)]) ↔ (0 : Int) ∈ ds := by rw [hmem]; exact ⟨fun z => z.elim id fun z => by omega, .inl⟩
            rw [if_neg (Ne.symm h0)]
            simp only [h00]
            exact M.o0
          · have h00 : ((0 : Int) ∈ ds ++ [(g : Int)]) ↔ (0 : Int) ∈ ds := by rw [hmem]; exact ⟨fun z => z.elim id fun z => by omega, .inl⟩
            rw [if_neg (by omega)]
            simp only [h00]
            exact M.n0
          · rw [if_neg (by omega)]; exact M.hi g' hg'
          · have hne : g' ≠ g := fun z => h3 ((hmem _).mpr (.inr (by rw [z])))
            obtain ⟨e1, e2⟩ := M.no g' h1 h2 fun z => h3 ((hmem _).mpr (.inl z))
            exact ⟨by rw [if_neg hne]; exact e1, e2⟩
          · by_cases hne : g' = g
            · subst hne
              rw [if_pos rfl]
              refine .inl ⟨rfl, ?_⟩
              rcases R.lo g' h1 h2 with ⟨_, e⟩ | ⟨e, _⟩
              · rw [(M.no g' h1 h2 hnot).2]; exact e
              · rw [e] at hgs; cases hgs
            · rw [if_neg hne]
              refine M.yes g' h1 h2 ?_
              rcases (hmem _).mp h3 with z | z
              · exact z
              · exfalso; omega
    · rintro σ H6 ⟨kvo', kvs', fo', fs', v6, v7, v8, rfl, em6, eo6, es6, to6, ts6, M, s6⟩
      rw [List.length_map, List.take_length] at M
      walk_at "go"
      refine ⟨kvo', kvs', fo', fs', _, _, _, _, rfl, eo6, es6, to6, ts6, Mid31.all R M fun g hg => ?_, s6⟩
      exact hperm.mem_iff.mpr (List.mem_map.mpr ⟨g, (hn3 g).mpr hg, rfl⟩)
  · rintro σ H1 ⟨kvo, kvs, fo, fs, v5, v6, v7, v8, rfl, eo, es, to, ts, R, s1⟩
    rw [show ((w'.length : Int) + 1 - 1).toNat = w'.length by omega] at R
    obtain ⟨ns, hn1, hn2, hn3⟩ := to.keys
    have hnb : ∀ n ∈ ns, n ≤ w'.length := fun n hn => by
      have h := (hn3 n).mp hn
      by_cases hle : n ≤ w'.length
      · exact hle
      · rw [(R.hi n (by omega)).1] at h; cases h
    have hnl := nodup_lt (w'.length + 1) ns hn2 fun n hn => Nat.lt_succ_of_le (hnb n hn)
    have hkeys : kvo.map (·.1) = (ns.map fun n : Nat => (n : Int)).map Sum.inl := by rw [hn1, List.map_map]; rfl
    walk_at "go"
    refine sortDI eo hkeys (by rw [List.length_map]; omega) fun mq ms hmq hperm hsort => ?_
    have hmm : ∀ x ∈ ms, ∃ g : Nat, x = (g : Int) ∧ g ∈ ns := fun x hx => by
      obtain ⟨g, hg, e⟩ := List.mem_map.mp (hperm.mem_iff.mp hx)
      exact ⟨g, e.symm, hg⟩
    have hmd : ms.Nodup := hperm.nodup_iff.mpr (List.Pairwise.map (fun n : Nat => (n : Int)) (fun a b h e => h (by omega)) hn2)
    have s5 := same_new hmq (.lst (ms.map V.int))
    have em := upd_same (H := H1) (a := mq) (o := .lst (ms.map V.int))
    have eo5 := s5 _ _ eo
    have es5 := s5 _ _ es
    have to5 := to.tk s5.tk
    have ts5 := ts.tk s5.tk
    have s05 := s1.trans s5
    have nms : mq ≠ sd := fun z => by rw [z, es] at hmq; cases hmq
    generalize upd H1 mq (.lst (ms.map V.int)) = H5 at s5 em eo5 es5 to5 ts5 s05 ⊢
    have hrl := rdW_len (w := w') (m := w'.length) (Nat.le_refl _)
    walk_at "go"
    refine for_list (K := K) (xs := ms.map V.int) (fun j σ H' => ∃ (kvs' : List (Key × V)) (fs' : Nat → Option (Int × Int)) (v5 v6 v7 v8 : Option V), σ = [some (.ref a), some (.ref b), some (.str (S w')), some (.ref od), some (.ref sd), v5, v6, v7, v8] ∧ H' mq = some (.lst (ms.map V.int)) ∧ H' od = some (.dK kvo) ∧ H' sd = some (.dK kvs') ∧ Tb vdat H' kvo fo ∧ Tb pdat H' kvs' fs' ∧ (∀ g, fs' g = if (g : Int) ∈ ms.take j ∧ 1 ≤ g ∧ g < w'.length then some (finP one other w' g) else fs g) ∧ Same H H')
      ⟨_, fs, _, _, _, _, rfl, em, eo5, es5, to5, ts5, fun g => by simp, s05⟩ (fun j σ H' _ ⟨_, _, _, _, _, _, _, e, _⟩ => SqL.of e) ?_ ?_
    · rintro j x σ H6 hx ⟨kvs', fs', v5, v6, v7, v8, rfl, em6, eo6, es6, to6, ts6, hfs, s6⟩
      have hjl : j < ms.length := by
        have := (List.getElem?_eq_some_iff.mp hx).1
        simpa using this
      rw [List.getElem?_map, List.getElem?_eq_getElem hjl] at hx
      cases hx
      obtain ⟨g, hgx, hgn⟩ := hmm _ (List.getElem_mem hjl)
      have htake : ms.take (j + 1) = ms.take j ++ [(g : Int)] := by rw [List.take_succ, List.getElem?_eq_getElem hjl, ← hgx]; rfl
      rw [hgx, htake]
      generalize ms.take j = ds at hfs ⊢
      have hgi := hnb g hgn
      have hgs := (hn3 g).mp hgn
      have hBs : ∀ n, (fs' n).isSome = true → n < 22 := fun n hn => by
        by_cases hle : n ≤ w'.length
        · omega
        · rw [hfs n, if_neg (by omega), (R.hi n (by omega)).2] at hn; cases hn
      have hls := Tb.len ts6 hBs
      have hzs : kvs'.length < sizeLine := szn (by omega)
      have hview : fo g = some (lawView one other (rdW w' w'.length) (gO g)) := by
        unfold gO
        by_cases h0 : g = 0
        · subst h0; rw [if_pos rfl]; exact R.o0
        · rw [if_neg h0]
          rcases R.lo g (by omega) hgi with ⟨e, _⟩ | ⟨e, _⟩
          · exact e
          · rw [e] at hgs; cases hgs
      obtain ⟨t, ht1, ht2⟩ := Tb.get to6 eo6 hview
      have okv : OkV (lawView one other (rdW w' w'.length) (gO g)) := by
        have hl := (tailOf_suf (begs (one ++ other)) (rdW w' w'.length)).length_le
        unfold gO
        by_cases h0 : g = 0
        · rw [if_pos h0]; exact ⟨by show (tailOf _ _).length ≤ 100; omega, fun n e => nomatch e⟩
        · rw [if_neg h0]; exact ⟨by show (tailOf _ _).length ≤ 100; omega, fun n e => by
            have e : some ((rdW w' w'.length).length - g - 1) = some n := e
            injection e with e; omega⟩
      have hlast : lastPs one other (lawView one other (rdW w' w'.length) (gO g)) = if 1 ≤ g ∧ g < w'.length then [finP one other w' g] else [] := by
        unfold gO
        by_cases h0 : g = 0
        · subst h0; rw [if_pos rfl, if_neg (by omega)]; rfl
        · rw [if_neg h0]
          by_cases hl : g < w'.length
          · rw [if_pos ⟨by omega, hl⟩, law_last (n := w'.length - g - 1) ho1 ho2 (by omega) (by omega)]
            have hfr : rdW w' w'.length ++ [46] = frame w' := by rw [frame_rd w' w'.length, List.drop_length]; rfl
            rw [hfr]
            rfl
          · have hgw : g = w'.length := by omega
            rw [if_neg (by omega)]
            have hb : (lawView one other (rdW w' w'.length) (some g)).b = some 0 := by
              show some ((rdW w' w'.length).length - g - 1) = some 0
              rw [hrl, hgw]; congr 1; omega
            unfold lastPs
            rw [hb]
      walk_at "go"
      refine i_dget ?_
      walk_at "go"
      refine ⟨od, .ref t, rfl, ht1, ?_⟩
      walk_at "go"
      refine ⟨a, b, t, one, other, lawView one other (rdW w' w'.length) (gO g), rfl, t2.same s6, okv, ht2, fun lp us H7 elp hlp0 hus7 s7 => ?_⟩
      rw [hlast] at hus7
      have em7 := s7 _ _ em6
      have eo7 := s7 _ _ eo6
      have es7 := s7 _ _ es6
      have to7 := to6.tk s7.tk
      have ts7 := ts6.tk s7.tk
      have s07 := s6.trans s7
      have hmem : ∀ x : Int, x ∈ ds ++ [(g : Int)] ↔ x ∈ ds ∨ x = (g : Int) := fun x => by rw [List.mem_append, List.mem_singleton]
      by_cases hin : 1 ≤ g ∧ g < w'.length
      · rw [if_pos hin] at hus7
        obtain ⟨z1, rfl⟩ : ∃ z1, us = [z1] := by
          have := hus7.length
          match us, this with
          | [z1], _ => exact ⟨z1, rfl⟩
        simp only [List.map_cons, List.map_nil, L2.IsL] at hus7
        obtain ⟨y1, rfl, hy1⟩ := isPair hus7.1
        have hy1 : H7 y1 = some (.tup (pdat (finP one other w' g))) := hy1
        have hlt : decide ((g : Int) < (w'.length : Int)) = true := decide_eq_true (by omega)
        walk_at "go"
        refine iteDT (by omega) ?_
        walk_at "go"
        refine iteBF (by rw [hlt]; rfl) ?_
        walk_at "go"
        refine i_dput ?_
        walk_at "go"
        refine ⟨sd, _, rfl, DPut.k (k := nk g) es7 hzs, ?_⟩
        walk_at "go"
        refine ⟨_, _, _, _, _, _, rfl, by rw [upd_ne nms]; exact em7, by rw [upd_ne hosd]; exact eo7, upd_same, to7.tk (tkD es7), (ts7.put (n := g) hy1).tk (tkD es7), fun g' => ?_, stS s07⟩
        by_cases e : g' = g
        · subst e
          rw [if_pos rfl, if_pos ⟨(hmem _).mpr (.inr rfl), hin⟩]
        · rw [if_neg e, hfs g']
          have : ((g' : Int) ∈ ds ++ [(g : Int)]) ↔ (g' : Int) ∈ ds := by rw [hmem]; exact ⟨fun z => z.elim id fun z => by omega, .inl⟩
          simp only [this]
      · rw [if_neg hin] at hus7
        obtain rfl : us = [] := by
          have := hus7.length
          match us, this with
          | [], _ => rfl
        have fin : ∃ (kvs' : List (Key × V)) (fs' : Nat → Option (Int × Int)) (w5 w6 w7 w8 : Option V), [some (V.ref a), some (.ref b), some (.str (S w')), some (.ref od), some (.ref sd), v5, some (.int (g : Int)), v7, some (.ref lp)] = [some (V.ref a), some (.ref b), some (.str (S w')), some (.ref od), some (.ref sd), w5, w6, w7, w8] ∧ H7 mq = some (.lst (ms.map V.int)) ∧ H7 od = some (.dK kvo) ∧ H7 sd = some (.dK kvs') ∧ Tb vdat H7 kvo fo ∧ Tb pdat H7 kvs' fs' ∧ (∀ g', fs' g' = if (g' : Int) ∈ ds ++ [(g : Int)] ∧ 1 ≤ g' ∧ g' < w'.length then some (finP one other w' g') else fs g') ∧ Same H H7 := by
          refine ⟨kvs', fs', _, _, _, _, rfl, em7, eo7, es7, to7, ts7, fun g' => ?_, s07⟩
          rw [hfs g']
          by_cases e : g' = g
          · subst e
            rw [if_neg (fun z => hin z.2), if_neg (fun z => hin z.2)]
          · have : ((g' : Int) ∈ ds ++ [(g : Int)]) ↔ (g' : Int) ∈ ds := by rw [hmem]; exact ⟨fun z => z.elim id fun z => by omega, .inl⟩
            simp only [this]
        walk_at "go"
        by_cases hg0 : 0 < g
        · have hlt : decide ((g : Int) < (w'.length : Int)) = false := decide_eq_false (by omega)
          refine iteDT (by omega) ?_
          walk_at "go"
          refine iteBF (by rw [hlt]; rfl) ?_
          walk_at "go"
          exact fin
        · refine iteDF (by omega) ?_
          walk_at "go"
          try refine iteBF rfl ?_
          walk_at "go"
          exact fin
    · rintro σ H6 ⟨kvs', fs', v5, v6, v7, v8, rfl, em6, eo6, es6, to6, ts6, hfs, s6⟩
      rw [List.length_map, List.take_length] at hfs
      walk_at "go"
      refine q sd kvs' fs' H6 es6 ts6 (fun g => ?_) s6
      rw [hfs g]
      by_cases h1 : 1 ≤ g ∧ g < w'.length
      · rw [if_pos h1]
        rcases R.lo g h1.1 (by omega) with ⟨e, _⟩ | ⟨_, _, e⟩
        · rw [if_pos ⟨hperm.mem_iff.mpr (List.mem_map.mpr ⟨g, (hn3 g).mpr (by rw [e]; rfl), rfl⟩), h1⟩]
        · split
          · rfl
          · exact e
      · rw [if_neg h1, if_neg (fun z => h1 z.2)]
        by_cases h0 : g = 0
        · subst h0; exact R.s0
        · by_cases hw : g ≤ w'.length
          · rcases R.lo g (by omega) hw with ⟨_, e⟩ | ⟨_, e, _⟩
            · exact e
            · exact absurd ⟨by omega, e⟩ h1
          · exact (R.hi g (by omega)).2
end
abbrev s_law : Stmt := top 17
theorem sc_law : FnScope ["_law_script", "_law_letters_here", "_law_lists_here", "_law_told", "_law_word", "_law_settled", "_law_due"] ["_law_script"] (defScope s_law) := ⟨rfl, rfl, rfl, by decide +kernel, rfl, by decide +kernel, by decide +kernel⟩
def spLaw (K : PySem.W.Frag) : Sp := fun vs H Q _ => ∃ (a : Addr) (ns : List Int), vs = [.ref a] ∧ SqL K H a (ns.map V.int) ∧ ns.length ≤ 63 ∧ ∀ H', Q (.bl true) H'
theorem Lay.pair {p : Int × Int} : Lay 1 (pairD p) := Lay.tup fun d hd => by
  simp only [List.mem_cons, List.not_mem_nil, or_false] at hd
  rcases hd with rfl | rfl <;> exact Lay.int
theorem i_lstRng {ta : TA} {σ : St} {H : Hp} {Q : VK} (h : ta σ H fun vs H1 => ∃ i j : Int, vs = [.int i, .int j] ∧ (-1000000 ≤ i ∧ i ≤ 1000000 ∧ -1000000 ≤ j ∧ j ≤ 1000000) ∧ ∀ q, H1 q = none → Q (.ref q) (upd H1 q (.lst ((List.range (j - i).toNat).map fun k : Nat => V.int (i + (k : Int)))))) : tLstRng ta σ H Q := h
theorem i_listZip {ta tb : TE} {σ : St} {H : Hp} {Q : VK} (h : ta σ H fun x H1 => tb σ H1 fun y H2 => ∃ (l1 l2 : Addr) (xs ys : List V), x = .ref l1 ∧ y = .ref l2 ∧ H2 l1 = some (.lst xs) ∧ H2 l2 = some (.lst ys) ∧ l1 ≠ l2 ∧ xs.length = ys.length ∧
  ∀ (q : Addr) (Ts : List Addr) (H3 : Hp), H2 q = none → H3 q = some (.lst (Ts.map V.ref)) → Ts.length = xs.length → (∀ (j : Nat) T, Ts[j]? = some T → ∃ x y, xs[j]? = some x ∧ ys[j]? = some y ∧ H3 T = some (.tup [x, y])) → Same H2 H3 → Q (.ref q) H3) : tListZip ta tb σ H Q := h
def ups (n : Nat) : List Int := (List.range (n - 1)).map fun k : Nat => 1 + (k : Int)
theorem ups_sorted (n : Nat) : (ups n).Pairwise (· ≤ ·) := by
  unfold ups
  exact List.Pairwise.map _ (fun a b h => by omega) List.pairwise_lt_range
theorem ups_of {ns : List Nat} {n : Nat} (h1 : ns.Nodup) (h2 : ∀ g, g ∈ ns ↔ 1 ≤ g ∧ g < n) {ms : List Int} (hp : ms.Perm (ns.map fun g : Nat => (g : Int))) (hs : ms.Pairwise (· ≤ ·)) : ms = ups n := by
  refine sorted_one ?_ hs (ups_sorted n)
  refine hp.trans ?_
  have h3 : ns.Perm ((List.range (n - 1)).map fun k => 1 + k) := by
    rw [List.perm_ext_iff_of_nodup h1 (List.Pairwise.map _ (fun a b h e => h (by omega)) List.nodup_range)]
    intro g
    rw [h2 g, List.mem_map]
    constructor
    · intro h
      exact ⟨g - 1, List.mem_range.mpr (by omega), by omega⟩
    · rintro ⟨k, hk, rfl⟩
      have := List.mem_range.mp hk
      omega
  have h4 := h3.map (fun g : Nat => (g : Int))
  rw [List.map_map] at h4
  have : ((fun g : Nat => (g : Int)) ∘ fun k : Nat => 1 + k) = fun k : Nat => 1 + (k : Int) := by funext k; show ((1 + k : Nat) : Int) = _; omega
  rw [this] at h4
  exact h4
section
variable {P : Program} {w : World} {K : PySem.W.Frag} {mg : Str → Option Value} {base : Heap} {f : Addr} {fd : FuncData} {tk : Nat → Tok} {cO : Addr}
theorem ok_law (T : Txt mg tk) (F : Fun K "law" "law" s_law f fd) (D_law_row : Dn P w K mg base "_law_row" 1 ["_law_script", "_law_at", "_law_bounds"] (spRow K)) (D_law_letters : Dn P w K mg base "_law_letters" 1 ["_law_numbers"] spLets) (D_law_lists : Dn P w K mg base "_law_lists" 3 ["_law_script", "_law_letters_here"] (spLists K)) (D_law_values : Dn P w K mg base "_law_values" 2 ["_law_patterns", "_law_word"] spVals) (D_law_read : Dn P w K mg base "_law_read" 5 ["_law_one", "_law_other", "_law_word"] spRead) : FnOk P w K mg base CX0 8 f fd ["_law_script"] (spLaw K) := by
  refine F.ok sc_law (fun vs H Q E h => ?_) (fun cdv A outer s H vs Q E hr h => ?_)
  · obtain ⟨a, ns, rfl, _⟩ := h
    rfl
  obtain ⟨a, ns, rfl, hS, hlen, q⟩ := h
  have nd := sc_law.nd
  refine ⟨_, (pss_cons (ps_set (i := 1) nd rfl (Or.inr rfl) (pe_callD D_law_letters (hr.mono (by first | decide | omega)) rfl (pa_cons (pe_callD D_law_row (hr.mono (by first | decide | omega)) rfl (pa_cons (pv 0) (pa_cons pe_int (pa_cons (pe_lst (pa_cons pe_int (pa_cons pe_int (pa_cons pe_int pa_nil)))) pa_nil)))) pa_nil)))
    (pss_cons (ps_set (i := 2) nd rfl (Or.inl rfl) (pe_callD D_law_lists (hr.mono (by first | decide | omega)) rfl (pa_cons (pv 0) (pa_cons (pe_slice (sl_any (K := K)) (pv 1) po_none (po_some (pe_un o_neg pe_int))) pa_nil))))
    (pss_cons (ps_set (i := 3) nd rfl (Or.inl rfl) (pe_callD D_law_row (hr.mono (by first | decide | omega)) rfl (pa_cons (pv 0) (pa_cons pe_int (pa_cons (pe_op o_add (pe_lst (pa_cons pe_int pa_nil)) (pe_op o_mul (pe_lst (pa_cons pe_int pa_nil)) pe_int)) pa_nil)))))
    (pss_cons (ps_set (i := 4) nd rfl (Or.inr rfl) (pe_bmK (K := K) PySem.F.plainAttrs_str PySem.F.slot_str_join PySem.F.type_str_join m_join1 pe_str (pa_cons (pe_comp ["_law_letters_here", "_law_number"] [some 1, none] rfl (by kernel_rfl) rfl (pi_any (K := K) (pe_slice (sl_any (K := K)) (pv 3) (po_some pe_int) (po_some (pe_op o_add pe_int (pe_ix (ix_any (K := K)) (pv 3) pe_int (fun _ _ => rfl)))))) (fun _ _ _ _ => (pg_name (i := 1) (show (["_law_letters_here", "_law_number"] : List Str).Nodup by decide +kernel) rfl (Or.inl rfl) (Or.inr rfl))) (fun _ _ _ _ => pts_nil) (fun _ _ _ _ => (pe_ix (ix_any (K := K)) (pv 0) (pe_op o_mod (pv 1) (pe_callB (c_len (K := K)) rfl T.z_len (by decide +kernel) (pa_cons (pv 0) pa_nil))) (fun _ _ => rfl)))) pa_nil)))
    (pss_cons (ps_set (i := 5) nd rfl (Or.inr rfl) (pe_callD D_law_read (hr.mono (by first | decide | omega)) rfl (pa_cons (pe_callTy c_list rfl T.z_list (by decide +kernel) (pa_cons (pe_ix (ix_any (K := K)) (pv 2) pe_int (fun _ _ => rfl)) pa_nil)) (pa_cons (pe_callTy c_list rfl T.z_list (by decide +kernel) (pa_cons (pe_ix (ix_any (K := K)) (pv 2) pe_int (fun _ _ => rfl)) pa_nil)) (pa_cons (pv 4) pa_nil)))))
    (pss_cons (ps_if (PW.pt (pw_or (pt_cmpR o_is (pv 5) pe_non (nomark _)) (pw_or1 (pt_cmpR (o_ne hr.units) (pe_callB (c_sortD rfl) rfl T.z_sorted (by decide +kernel) (pa_cons (pv 5) pa_nil)) (pe_lstRng rfl rfl T.z_list rfl T.z_range (pa_cons pe_int (pa_cons (pe_callB (c_len (K := K)) rfl T.z_len (by decide +kernel) (pa_cons (pv 4) pa_nil)) pa_nil))) (nomark _)))))
     (pss_one (ps_ret pe_bl))
     pss_nil)
    (pss_cons (ps_setC (i := 6) ["_law_word", "_law_patterns"] [some 4, none] rfl (by kernel_rfl) rfl nd rfl rfl (pi_any (K := K) (pv 2)) (fun _ _ _ _ => (pg_name (i := 1) (show (["_law_word", "_law_patterns"] : List Str).Nodup by decide +kernel) rfl (Or.inl rfl) (Or.inr rfl))) (fun _ _ _ _ => pts_nil) (fun _ _ _ _ => (pe_callD D_law_values (hr.mono (by first | decide | omega)) rfl (pa_cons (pv 1) (pa_cons (pv 0) pa_nil)))))
    (pss_one (ps_ret (pe_cmpR (o_eq hr.units) (pe_comp ["_law_settled", "_law_gap"] [some 5, none] rfl (by kernel_rfl) rfl (pi_any (K := K) (pe_callB (c_sortD rfl) rfl T.z_sorted (by decide +kernel) (pa_cons (pv 5) pa_nil))) (fun _ _ _ _ => (pg_name (i := 1) (show (["_law_settled", "_law_gap"] : List Str).Nodup by decide +kernel) rfl (Or.inl rfl) (Or.inr rfl))) (fun _ _ _ _ => pts_nil) (fun _ _ _ _ => (pe_dget (hu_of hr) (pv 0) (pv 1) (fun _ _ => rfl)))) (pe_listZip rfl rfl T.z_list rfl T.z_zip (pe_ix (ix_any (K := K)) (pv 6) pe_int (fun _ _ => rfl)) (pe_ix (ix_any (K := K)) (pv 6) pe_int (fun _ _ => rfl))) (nomark _))))))))))), ?_⟩
  rw [show L2.start ["_law_script", "_law_letters_here", "_law_lists_here", "_law_told", "_law_word", "_law_settled", "_law_due"] [.ref a] = [some (.ref a), none, none, none, none, none, none] from rfl]
  rw [t_empty]
  walk_at "go"
  intro p1 h1
  have s1 := same_new h1 (.lst [.int 26, .int 6, .int 3])
  walk_at "go"
  refine ⟨a, ns, 0, p1, [26, 6, 3], rfl, s1.seq hS, by decide, upd_same, by decide, by decide, fun r1 ds H2 hr1 e2 hdl hds s2 => ?_⟩
  have s02 := s1.trans s2
  obtain ⟨x, y, z, rfl⟩ : ∃ x y z, ds = [x, y, z] := by
    match ds, hdl with
    | [x, y, z], _ => exact ⟨x, y, z, rfl⟩
  obtain ⟨hx0, hx1⟩ := hds 0 x 26 rfl rfl
  obtain ⟨hy0, hy1⟩ := hds 1 y 6 rfl rfl
  obtain ⟨hz0, hz1⟩ := hds 2 z 3 rfl rfl
  walk_at "go"
  refine ⟨r1, x, y, z, rfl, e2, hx0, hx1, hy0, hy1, hz0, hz1, fun lt l H3 hr2 e3 hlw hl3 hl5 s3 => ?_⟩
  have s03 := s02.trans s3
  have hll : (lets l).length = l.length := by rw [lets, List.length_map]
  clear s3 e2 s2 s02 hds hr2 hr1 s1 h1
  walk_at "go"
  refine i_slL (SqL.of e3) fun l2 hl2 => ?_
  rw [cutV_eq, lets, cutA_map]
  have hcl := cut_length l none (some (-1))
  have hsx : sx l.length l.length (some (-1)) = l.length - 1 := by simp only [sx]; rw [if_pos (by decide)]; omega
  rw [hsx] at hcl
  have hcl : (cutA l none (some (-1))).length = l.length - 1 := hcl
  have hlo := Low_cut hlw none (some (-1))
  generalize cutA l none (some (-1)) = l' at hcl hlo ⊢
  have s4 := same_new hl2 (.lst (l'.map fun c => V.str (S [c])))
  have e4 : (upd H3 l2 (.lst (l'.map fun c => V.str (S [c])))) l2 = some (.lst (lets l')) := upd_same
  have s04 := s03.trans s4
  have e34 := s4 _ _ e3
  generalize upd H3 l2 (.lst (l'.map fun c => V.str (S [c]))) = H4 at e4 s04 e34 ⊢
  walk_at "go"
  refine ⟨a, ns, l2, l', rfl, s04.seq hS, e4, hlo, by omega, by omega, fun lr a1 b1 one other H5 elr t2 c1 c2 s5 => ?_⟩
  have s05 := s04.trans s5
  have e35 := s5 _ _ e34
  obtain ⟨ho1, ho2⟩ := t2.ok
  obtain ⟨ya, yb, ha, hb, hya, hyb, _, _⟩ := id t2
  have elr9 := elr
  have t29 := t2
  have e39 := e35
  have s09 := s05
  clear e4 s4 s5 e34 s04 s03 hl2 s05 elr t2 e35 ha hb hya hyb
  generalize H5 = H9 at *
  walk_at "go"
  intro q1 hq1
  walk_at "go"
  intro q2 hq2
  walk_at "go"
  refine i_mulZ upd_same (by decide) fun q3 hq3 => ?_
  have e31 : (upd (upd (upd H9 q1 (.lst [.int 20])) q2 (.lst [.int 5])) q3 (.lst (List.replicate (20 : Int).toNat (.int 5)))) q1 = some (.lst [.int 20]) := (same_new hq3 _) _ _ ((same_new hq2 _) _ _ upd_same)
  have s10 := ((same_new hq1 (.lst [.int 20])).trans (same_new hq2 (.lst [.int 5]))).trans (same_new hq3 (.lst (List.replicate (20 : Int).toNat (.int 5))))
  walk_at "go"
  refine i_addL e31 upd_same (szn (show 21 ≤ 1000000 by decide)) fun q4 hq4 => ?_
  have s11 := s10.trans (same_new hq4 (.lst ([.int 20] ++ List.replicate (20 : Int).toNat (.int 5))))
  have e11 := upd_same (H := upd (upd (upd H9 q1 (.lst [.int 20])) q2 (.lst [.int 5])) q3 (.lst (List.replicate (20 : Int).toNat (.int 5)))) (a := q4) (o := .lst ([.int 20] ++ List.replicate (20 : Int).toNat (.int 5)))
  generalize upd (upd (upd (upd H9 q1 (.lst [.int 20])) q2 (.lst [.int 5])) q3 (.lst (List.replicate (20 : Int).toNat (.int 5)))) q4 (.lst ([.int 20] ++ List.replicate (20 : Int).toNat (.int 5))) = H11 at s11 e11 ⊢
  have e11 : H11 q4 = some (.lst ((20 :: List.replicate 20 (5 : Int)).map V.int)) := e11
  walk_at "go"
  refine ⟨a, ns, 2, q4, (20 :: List.replicate 20 (5 : Int)), rfl, (s09.trans s11).seq hS, by decide, e11, by decide, by decide, fun tr ds H12 htr etr hdl hds s12 => ?_⟩
  have hdl : ds.length = 21 := hdl
  have s912 := s11.trans s12
  have elr12 := s912 _ _ elr9
  have t212 := t29.same s912
  have e312 := s912 _ _ e39
  obtain ⟨hd0, hd1⟩ := hds 0 (ds[0]'(by omega)) 20 (List.getElem?_eq_getElem _) rfl
  have hdn : ∀ x ∈ ds, 0 ≤ x := fun x hx => by
    obtain ⟨j, hj, rfl⟩ := List.mem_iff_getElem.mp hx
    have hj2 : j < (20 :: List.replicate 20 (5 : Int)).length := by rw [hdl] at hj; exact hj
    exact (hds j _ _ (List.getElem?_eq_getElem hj) (List.getElem?_eq_getElem hj2)).1
  have ad0 : atI (ds.map V.int) 0 = some (.int (ds[0]'(by omega))) := atI_of (by decide) (by rw [List.getElem?_map]; show Option.map V.int ds[0]? = _; rw [List.getElem?_eq_getElem (by omega)]; rfl)
  generalize (ds[0]'(by omega)) = d0 at hd0 hd1 ad0
  clear s12 e11 s11 s10 e31 hq4 hq3 hq2 hq1 hds htr elr9 t29 e39 s09 s912
  walk_at "go"
  refine i_slL (SqL.of etr) fun g hg0 => ?_
  rw [cutV_eq, cutA_map]
  have hcl2 := cut_length ds (some 1) (some (2 + d0))
  have hsx1 : sx ds.length 0 (some 1) = 1 := by simp only [sx]; rw [if_neg (by decide)]; show min 1 ds.length = 1; omega
  have hsx2 : sx ds.length ds.length (some (2 + d0)) = 2 + d0.toNat := by simp only [sx]; rw [if_neg (by omega)]; omega
  rw [hsx1, hsx2] at hcl2
  have hcm : ∀ v ∈ cutA ds (some 1) (some (2 + d0)), 0 ≤ v := fun v hv => hdn v (List.mem_of_mem_drop (List.mem_of_mem_take hv))
  generalize cutA ds (some 1) (some (2 + d0)) = cs at hcl2 hcm ⊢
  have s13 := same_new hg0 (.lst (cs.map V.int))
  have e13 := upd_same (H := H12) (a := g) (o := .lst (cs.map V.int))
  generalize upd H12 g (.lst (cs.map V.int)) = H13 at s13 e13 ⊢
  have e313 := s13 _ _ e312
  walk_at "go"
  intro n hn0
  refine comp_list (K := K) (xs := cs.map V.int) (fun j acc σ H' => ∃ (v : Option V) (us : List Nat), σ = [some (.ref lt), v] ∧ acc = lets us ∧ us.length = j ∧ Low us ∧ H' n = some (.lst acc) ∧ Same H13 H')
    (fun j acc σ H' _ ⟨_, _, _, _, _, _, _, s3⟩ => SqL.of (s3 _ _ e13)) ⟨none, [], rfl, rfl, rfl, (fun u hu => nomatch hu), upd_same, same_new hn0 _⟩ (fun j acc σ H' ⟨_, us, _, e, e1, _, e3, _⟩ => ⟨e3, by rw [e, lets, List.length_map]; omega⟩) (szn (by rw [List.length_map]; omega)) ?_ ?_
  · rintro j acc σ H14 hj ⟨v, us, rfl, rfl, hul, hus, e14, s14⟩
    have hj' : j < cs.length := by simpa using hj
    have hgd : (cs.map V.int).getD j .non = V.int cs[j] := by
      rw [List.getD_eq_getElem?_getD, List.getElem?_map, List.getElem?_eq_getElem hj']; rfl
    rw [hgd]
    have hu0 := hcm _ (List.getElem_mem hj')
    generalize cs[j] = dx at hu0 ⊢
    have e314 := s14 _ _ e313
    walk_at "go"
    rw [hll]
    have hc0 := Int.emod_nonneg dx (show (l.length : Int) ≠ 0 by omega)
    have hc1 := Int.emod_lt_of_pos dx (show (0 : Int) < (l.length : Int) by omega)
    generalize dx % (l.length : Int) = c at hc0 hc1 ⊢
    have hcl3 : c.toNat < l.length := by omega
    refine i_ixR (v := .str (S [l[c.toNat]])) (seqR_lst e314) (atI_of hc0 (by rw [lets, List.getElem?_map, List.getElem?_eq_getElem hcl3]; rfl)) ?_
    refine ⟨e14, _, us ++ [l[c.toNat]], rfl, by rw [lets, lets, List.map_append]; rfl, by rw [List.length_append, hul]; rfl, Low_append hus (fun x hx => ?_), upd_same, fun b' o e => ?_⟩
    · have : x = l[c.toNat] := by simpa using hx
      rw [this]
      exact hlw _ (List.getElem_mem _)
    · have hbr : b' ≠ n := fun z => by rw [z, hn0] at e; cases e
      rw [upd_ne hbr]; exact s14 b' o e
  rintro acc σ H14 ⟨v, w', rfl, rfl, hul, hwl, e14, s14⟩
  rw [List.length_map] at hul
  walk_at "go"
  have hs := sum_one w'
  refine i_join (ys := w'.map fun c => S [c]) (by rw [← map_one]; exact lstR_of e14) ?_ ?_
  · rw [hs, List.length_map, S_length]
    simp only [List.length_nil, Nat.mul_zero]
    omega
  rw [joined_one]
  have hw1 : 1 ≤ w'.length ∧ w'.length ≤ 20 := by omega
  have s1214 := s13.trans s14
  have elr14 := s1214 _ _ elr12
  have t214 := t212.same s1214
  clear hs e14 hul hn0 s13 s14 e13 e313 hcm hcl2 e312 elr12 t212 s1214 v hg0 etr
  obtain ⟨ya, yb, ha, hb, hya, hyb, _, _⟩ := id t214
  walk_at "go"
  refine i_listR (seqR_lst ha) fun hw hhw => ?_
  have sw := same_new hhw (.lst ya)
  have elr1 := sw _ _ elr14
  have hb1 := sw _ _ hb
  walk_at "go"
  refine i_listR (seqR_lst hb1) fun hp hhp => ?_
  have sp := same_new hhp (.lst yb)
  have s6 := sw.trans sp
  have ehw := sp _ _ (upd_same (H := H14) (a := hw) (o := .lst ya))
  have ehp := upd_same (H := upd H14 hw (.lst ya)) (a := hp) (o := .lst yb)
  generalize upd (upd H14 hw (.lst ya)) hp (.lst yb) = H6 at sp s6 ehw ehp ⊢
  walk_at "go"
  refine ⟨hw, hp, one, other, w', rfl, ⟨ya, yb, ehw, ehp, IsL.same s6 hya, IsL.same s6 hyb, ho1, ho2⟩, hw1.1, hw1.2, fun d kvs fs H7 ed tb hfs s7 => ?_⟩
  have s17 := s6.trans s7
  have elr7 := s17 _ _ elr14
  have t27 := t214.same s17
  obtain ⟨ns, hn1, hn2, hn3⟩ := tb.keys
  have hn4 : ∀ g, g ∈ ns ↔ 1 ≤ g ∧ g < w'.length := fun g => by
    rw [hn3 g, hfs g]
    by_cases h : 1 ≤ g ∧ g < w'.length
    · rw [if_pos h]; exact ⟨fun _ => h, fun _ => rfl⟩
    · rw [if_neg h]; exact ⟨fun z => (by cases z), fun z => absurd z h⟩
  have hnl := nodup_lt 21 ns hn2 fun g hg => by have := (hn4 g).mp hg; omega
  have hkeys : kvs.map (·.1) = (ns.map fun n : Nat => (n : Int)).map Sum.inl := by rw [hn1, List.map_map]; rfl
  clear s17 s7 s6 sp sw hhw hhp hb1 elr1 ehw ehp ha hb hya hyb elr14 t214
  walk_at "go"
  refine sortDI ed hkeys (by rw [List.length_map]; omega) fun mq ms hmq hperm hsort => ?_
  obtain rfl := ups_of hn2 hn4 hperm hsort
  have s8 := same_new hmq (.lst ((ups w'.length).map V.int))
  have em := upd_same (H := H7) (a := mq) (o := .lst ((ups w'.length).map V.int))
  have ed8 := s8 _ _ ed
  have tb8 := tb.tk s8.tk
  have elr8 := s8 _ _ elr7
  have t28 := t27.same s8
  generalize upd H7 mq (.lst ((ups w'.length).map V.int)) = H8 at s8 em ed8 tb8 elr8 t28 ⊢
  walk_at "go"
  refine i_lstRng ?_
  walk_at "go"
  refine ⟨1, _, rfl, by omega, fun rq hrq => ?_⟩
  have hrr : ((List.range ((w'.length : Int) - 1).toNat).map fun k : Nat => V.int (1 + (k : Int))) = (ups w'.length).map V.int := by
    unfold ups; rw [List.map_map, show ((w'.length : Int) - 1).toNat = w'.length - 1 by omega]; rfl
  rw [hrr]
  have s9 := same_new hrq (.lst ((ups w'.length).map V.int))
  have er := upd_same (H := H8) (a := rq) (o := .lst ((ups w'.length).map V.int))
  have ed9 := s9 _ _ ed8
  have em9 := s9 _ _ em
  have tb9 := tb8.tk s9.tk
  have elr9 := s9 _ _ elr8
  have t29 := t28.same s9
  generalize upd H8 rq (.lst ((ups w'.length).map V.int)) = H9' at s9 er ed9 em9 tb9 elr9 t29 ⊢
  refine i_neD (d := .lst ((ups w'.length).map Dt.int)) (by simp only [Is]; exact ⟨mq, _, rfl, em9, IsL.ints _ _⟩) (by simp only [Is]; exact ⟨rq, _, rfl, er, IsL.ints _ _⟩) ((Lay.lst Lay.ints).ok (by decide)) ?_
  walk_at "go"
  intro dq hdq
  have is2 := t29.is
  refine comp_tup (K := K) (a := lr) (xs := [.ref a1, .ref b1]) (fun i acc σ H' => ∃ (v : Option V) (rs : List Addr), σ = [some (.str (S w')), v] ∧ acc = rs.map V.ref ∧ rs.length = i ∧ rs.Nodup ∧ (∀ r ∈ rs, ∃ o, H' r = some o) ∧ (∀ r, rs[0]? = some r → H' r = some (.lst ((vals one w').map V.int))) ∧ (∀ r, rs[1]? = some r → H' r = some (.lst ((vals other w').map V.int))) ∧ H' dq = some (.lst acc) ∧ (∀ r ∈ rs, r ≠ dq) ∧ Same H9' H')
    (fun i acc σ H' _ ⟨_, _, _, _, _, _, _, _, _, _, _, s3⟩ => SqT.of (s3 _ _ elr9)) ⟨none, [], rfl, rfl, rfl, List.nodup_nil, (fun r hr => nomatch hr), (fun r hr => by simp at hr), (fun r hr => by simp at hr), upd_same, (fun r hr => nomatch hr), same_new hdq _⟩ (fun i acc σ H' ⟨_, rs, _, e, e1, _, _, _, _, e2, _⟩ => ⟨e2, by rw [e, List.length_map]; omega⟩) (szn (show 2 ≤ 1000000 by decide)) ?_ ?_
  · rintro i acc σ H10 hi ⟨v, rs, rfl, rfl, hrl, hrd, hrt, hr0, hr1, e10, hrn, s10⟩
    have h01 : i = 0 ∨ i = 1 := by
      have : i < 2 := hi
      omega
    have sup : ∀ {H11 : Hp} {xs : List V}, Same H10 H11 → Same H9' (upd H11 dq (.lst xs)) := fun {H11 xs} s b o e => by
      have hb : b ≠ dq := fun z => by rw [z, hdq] at e; cases e
      rw [upd_ne hb]; exact s _ _ (s10 _ _ e)
    rcases h01 with rfl | rfl
    · obtain rfl : rs = [] := List.length_eq_zero_iff.mp hrl
      show gName _ _ _ _ _
      walk_at "go"
      refine ⟨.ref a1, one, w', rfl, Is.same s10 is2.1, ho1, hw1.1, by omega, fun r H11 hrf er11 s11 => ?_⟩
      have hrq' : r ≠ dq := fun z => by rw [z, e10] at hrf; cases hrf
      refine ⟨s11 _ _ e10, _, [r], rfl, rfl, rfl, by simp, fun r' h => ?_, fun r' h => ?_, fun r' h => by simp at h, upd_same, fun r' h => ?_, sup s11⟩
      · have : r' = r := by simpa using h
        rw [this, upd_ne hrq']; exact ⟨_, er11⟩
      · have : r = r' := by simpa using h
        rw [← this, upd_ne hrq']; exact er11
      · have : r' = r := by simpa using h
        rw [this]; exact hrq'
    · obtain ⟨r0, rfl⟩ : ∃ r0, rs = [r0] := by
        match rs, hrl with
        | [r0], _ => exact ⟨r0, rfl⟩
      have hr0' := hr0 r0 rfl
      show gName _ _ _ _ _
      walk_at "go"
      refine ⟨.ref b1, other, w', rfl, Is.same s10 is2.2, ho2, hw1.1, by omega, fun r H11 hrf er11 s11 => ?_⟩
      have hrq' : r ≠ dq := fun z => by rw [z, e10] at hrf; cases hrf
      have hr0q : r0 ≠ dq := hrn r0 (by simp)
      have hrr0 : r0 ≠ r := fun z => by rw [← z, hr0'] at hrf; cases hrf
      refine ⟨s11 _ _ e10, _, [r0, r], rfl, rfl, rfl, by simp [hrr0], fun r' h => ?_, fun r' h => ?_, fun r' h => ?_, upd_same, fun r' h => ?_, sup s11⟩
      · simp only [List.mem_cons, List.not_mem_nil, or_false] at h
        rcases h with rfl | rfl
        · rw [upd_ne hr0q]; exact ⟨_, s11 _ _ hr0'⟩
        · rw [upd_ne hrq']; exact ⟨_, er11⟩
      · have : r0 = r' := by simpa using h
        rw [← this, upd_ne hr0q]; exact s11 _ _ hr0'
      · have : r = r' := by simpa using h
        rw [← this, upd_ne hrq']; exact er11
      · simp only [List.mem_cons, List.not_mem_nil, or_false] at h
        rcases h with rfl | rfl
        · exact hr0q
        · exact hrq'
  rintro acc σ H10 ⟨v, rs, rfl, rfl, hrl, hrd, hrt, hr0, hr1, e10, hrn, s10⟩
  obtain ⟨ra, rb, rfl⟩ : ∃ ra rb, rs = [ra, rb] := by
    have : rs.length = 2 := hrl
    match rs, this with
    | [ra, rb], _ => exact ⟨ra, rb, rfl⟩
  have era := hr0 ra rfl
  have erb := hr1 rb rfl
  have hab : ra ≠ rb := by
    simp only [List.nodup_cons, List.mem_singleton] at hrd
    exact hrd.1
  have e10 : H10 dq = some (.lst [.ref ra, .ref rb]) := e10
  have ed10 := s10 _ _ ed9
  have tb10 := tb9.tk s10.tk
  clear hr0 hr1 hrt hrn hrd v
  walk_at "go"
  refine sortDI ed10 hkeys (by rw [List.length_map]; omega) fun mp ms2 hmp hperm2 hsort2 => ?_
  obtain rfl := ups_of hn2 hn4 hperm2 hsort2
  have s11 := same_new hmp (.lst ((ups w'.length).map V.int))
  have em2 := upd_same (H := H10) (a := mp) (o := .lst ((ups w'.length).map V.int))
  have ed11 := s11 _ _ ed10
  have tb11 := tb10.tk s11.tk
  have era11 := s11 _ _ era
  have erb11 := s11 _ _ erb
  have e1011 := s11 _ _ e10
  generalize upd H10 mp (.lst ((ups w'.length).map V.int)) = H11 at s11 em2 ed11 tb11 era11 erb11 e1011 ⊢
  have hul : (ups w'.length).length = w'.length - 1 := by unfold ups; rw [List.length_map, List.length_range]
  walk_at "go"
  intro cq hcq
  refine comp_list (K := K) (xs := (ups w'.length).map V.int) (fun j acc σ H' => ∃ (v : Option V), σ = [some (.ref d), v] ∧ acc.length = j ∧ H' cq = some (.lst acc) ∧ L2.IsL H' acc (((List.range j).map fun k => finP one other w' (k + 1)).map pairD) ∧ Same H11 H')
    (fun j acc σ H' _ ⟨_, _, _, _, _, s3⟩ => SqL.of (s3 _ _ em2)) ⟨none, rfl, rfl, upd_same, (by simp [L2.IsL]), same_new hcq _⟩ (fun j acc σ H' ⟨_, _, e, e3, _⟩ => ⟨e3, Nat.le_of_eq e⟩) (szn (by rw [List.length_map, hul]; omega)) ?_ ?_
  · rintro j acc σ H12 hj ⟨v, rfl, hal, e12, hz12, s12⟩
    have hj' : j < w'.length - 1 := by rw [List.length_map, hul] at hj; exact hj
    have hgd : ((ups w'.length).map V.int).getD j .non = V.int ((j + 1 : Nat) : Int) := by
      rw [List.getD_eq_getElem?_getD, List.getElem?_map]
      unfold ups
      rw [List.getElem?_map, List.getElem?_range hj']
      show V.int (1 + (j : Int)) = _
      congr 1; omega
    rw [hgd]
    have ed12 := s12 _ _ ed11
    have tb12 := tb11.tk s12.tk
    obtain ⟨t, ht1, ht2⟩ := Tb.get tb12 ed12 (n := j + 1) (a := finP one other w' (j + 1)) (by rw [hfs, if_pos (by omega)])
    walk_at "go"
    refine i_dget ?_
    walk_at "go"
    refine ⟨d, .ref t, rfl, ht1, e12, _, rfl, by rw [List.length_append, hal]; rfl, upd_same, ?_, fun b' o e => ?_⟩
    · have k4 : Tk H12 (upd H12 cq (.lst (acc ++ [.ref t]))) := Tk.lst e12 _
      rw [List.range_succ, List.map_append, List.map_append]
      have tO : tOnlyL (((List.range j).map fun k => finP one other w' (k + 1)).map pairD) = true := tOnlyL_of fun dd hd => by
        obtain ⟨x, _, rfl⟩ := List.mem_map.mp hd
        rfl
      exact IsL.snoc (IsL.tk k4 tO hz12) (isPair_mk (k4 _ _ ht2))
    · have hbr : b' ≠ cq := fun z => by rw [z, hcq] at e; cases e
      rw [upd_ne hbr]; exact s12 b' o e
  rintro acc2 σ H12 ⟨v, rfl, hal, e12, hz12, s12⟩
  rw [List.length_map, hul] at hal hz12
  have era12 := s12 _ _ era11
  have erb12 := s12 _ _ erb11
  have e1012 := s12 _ _ e1011
  walk_at "go"
  refine i_listZip ?_
  walk_at "go"
  refine ⟨ra, rb, _, _, rfl, rfl, era12, erb12, hab, by rw [List.length_map, List.length_map, vals_length, vals_length], fun zq Ts H13 hzq ezq hTl hTs s13 => ?_⟩
  rw [List.length_map, vals_length] at hTl
  refine i_eqD (d := .lst (((List.range (w'.length - 1)).map fun k => finP one other w' (k + 1)).map pairD)) (e := .lst (((List.range (w'.length - 1)).map fun k => finP one other w' (k + 1)).map pairD)) ?_ ?_ ?_ ?_ ?_
  · simp only [Is]
    exact ⟨cq, acc2, rfl, s13 _ _ e12, IsL.same s13 hz12⟩
  · simp only [Is]
    refine ⟨zq, _, rfl, ezq, ?_⟩
    have gen : ∀ (m : Nat), m ≤ w'.length - 1 → L2.IsL H13 ((Ts.take m).map V.ref) (((List.range m).map fun k => finP one other w' (k + 1)).map pairD) := fun m => by
      induction m with
      | zero => intro _; simp [L2.IsL]
      | succ m ih =>
        intro hm
        have hml : m < Ts.length := by omega
        rw [List.take_succ, List.getElem?_eq_getElem hml, List.range_succ, List.map_append, List.map_append, List.map_append]
        refine IsL.snoc (ih (by omega)) (isPair_mk ?_)
        obtain ⟨x, y, h1, h2, h3⟩ := hTs m Ts[m] (List.getElem?_eq_getElem hml)
        rw [List.getElem?_map, vals_get _ _ _ (by omega)] at h1 h2
        cases h1
        cases h2
        exact h3
    have := gen (w'.length - 1) (Nat.le_refl _)
    rw [List.take_of_length_le (by omega)] at this
    exact this
  · exact (Lay.lst (n := 1) fun dd hd => by
      obtain ⟨x, _, rfl⟩ := List.mem_map.mp hd
      exact Lay.pair).ok (by decide)
  · exact (Lay.lst (n := 1) fun dd hd => by
      obtain ⟨x, _, rfl⟩ := List.mem_map.mp hd
      exact Lay.pair).ok (by decide)
  rw [eqD_self (d := .lst (((List.range (w'.length - 1)).map fun k => finP one other w' (k + 1)).map pairD)) ((Lay.lst (n := 1) fun dd hd => by
      obtain ⟨x, _, rfl⟩ := List.mem_map.mp hd
      exact Lay.pair).ok (by decide))]
  walk_at "go"
  exact q _
end
theorem all_mk {l : PySem.W.OpenLaw} {w : World} {K : PySem.W.Frag} {h : Heap} {mg : Str → Option Value} {fa f0 f1 f2 f3 f4 f5 f6 f7 f8 f9 f10 f11 f12 f13 f14 f15 f16 f17 f18 f19 : Addr} (X : K.In h) (G : h.Ns mainGlobals mg) (hfa : mg "law" = some (.ref fa))
    {cO : Addr} (aO : PySem.W.nsIn K mainGlobals "Sight" = some (some (.ref cO))) (pO : PySem.W.plainGet K cO Str.empty = true) (dO : PySem.W.hasDictIn K cO = true) (vO : PySem.W.plainOver K cO = true) (sO : PySem.W.findIn K (.ref cO) "__setattr__" = some (some (.builtin "object.__setattr__"))) (mO : PySem.W.makesIn K cO = true) (kO : PySem.W.keepIn K (.ref cO) = true)
    (n_known : PySem.W.findIn K (.ref cO) "known" = some none)
    (n_one_numbers : PySem.W.findIn K (.ref cO) "one_numbers" = some none)
    (n_other_numbers : PySem.W.findIn K (.ref cO) "other_numbers" = some none)
    {od0 an0 : Option Addr} {sl0 : Array (Option Value)} {oc0 kV0 dc0 pm0 cd0 ct0 : Value}
    (a0 : PySem.W.nsIn K mainGlobals "beginnings" = some (some (.ref f0))) (l0 : K.lookup f0 = some ⟨oc0, od0, .func (PySem.W.fnOf "beginnings" "beginnings" (defArgs s_beginnings) (defBody s_beginnings) (defScope s_beginnings) .none kV0 dc0 pm0 an0 cd0 ct0), sl0⟩) (c_0 : PySem.W.codeIn K cd0 "beginnings" = true) (k0 : PySem.W.keepIn K (.ref f0) = true)
    {od1 an1 : Option Addr} {sl1 : Array (Option Value)} {oc1 kV1 dc1 pm1 cd1 ct1 : Value}
    (a1 : PySem.W.nsIn K mainGlobals "greatest_numbers" = some (some (.ref f1))) (l1 : K.lookup f1 = some ⟨oc1, od1, .func (PySem.W.fnOf "greatest_numbers" "greatest_numbers" (defArgs s_greatest_numbers) (defBody s_greatest_numbers) (defScope s_greatest_numbers) .none kV1 dc1 pm1 an1 cd1 ct1), sl1⟩) (c_1 : PySem.W.codeIn K cd1 "greatest_numbers" = true) (k1 : PySem.W.keepIn K (.ref f1) = true)
    {od2 an2 : Option Addr} {sl2 : Array (Option Value)} {oc2 kV2 dc2 pm2 cd2 ct2 : Value}
    (a2 : PySem.W.nsIn K mainGlobals "told_at_end" = some (some (.ref f2))) (l2 : K.lookup f2 = some ⟨oc2, od2, .func (PySem.W.fnOf "told_at_end" "told_at_end" (defArgs s_told_at_end) (defBody s_told_at_end) (defScope s_told_at_end) .none kV2 dc2 pm2 an2 cd2 ct2), sl2⟩) (c_2 : PySem.W.codeIn K cd2 "told_at_end" = true) (k2 : PySem.W.keepIn K (.ref f2) = true)
    {od3 an3 : Option Addr} {sl3 : Array (Option Value)} {oc3 kV3 dc3 pm3 cd3 ct3 : Value}
    (iO3 : PySem.W.findIn K (.ref cO) "__init__" = some (some (.ref f3))) (fO3 : PySem.W.isFn K (.ref f3) = true) (l3 : K.lookup f3 = some ⟨oc3, od3, .func (PySem.W.fnOf "__init__" "Sight.__init__" (defArgs s_Sight_init) (defBody s_Sight_init) (defScope s_Sight_init) .none kV3 dc3 pm3 an3 cd3 ct3), sl3⟩) (c_3 : PySem.W.codeIn K cd3 "Sight.__init__" = true) (k3 : PySem.W.keepIn K (.ref f3) = true)
    {od4 an4 : Option Addr} {sl4 : Array (Option Value)} {oc4 kV4 dc4 pm4 cd4 ct4 : Value}
    (iO4 : PySem.W.findIn K (.ref cO) "tail_of" = some (some (.ref f4))) (fO4 : PySem.W.isFn K (.ref f4) = true) (l4 : K.lookup f4 = some ⟨oc4, od4, .func (PySem.W.fnOf "tail_of" "Sight.tail_of" (defArgs s_Sight_tail_of) (defBody s_Sight_tail_of) (defScope s_Sight_tail_of) .none kV4 dc4 pm4 an4 cd4 ct4), sl4⟩) (c_4 : PySem.W.codeIn K cd4 "Sight.tail_of" = true) (k4 : PySem.W.keepIn K (.ref f4) = true)
    {od5 an5 : Option Addr} {sl5 : Array (Option Value)} {oc5 kV5 dc5 pm5 cd5 ct5 : Value}
    (iO5 : PySem.W.findIn K (.ref cO) "pair_at_end" = some (some (.ref f5))) (fO5 : PySem.W.isFn K (.ref f5) = true) (l5 : K.lookup f5 = some ⟨oc5, od5, .func (PySem.W.fnOf "pair_at_end" "Sight.pair_at_end" (defArgs s_Sight_pair_at_end) (defBody s_Sight_pair_at_end) (defScope s_Sight_pair_at_end) .none kV5 dc5 pm5 an5 cd5 ct5), sl5⟩) (c_5 : PySem.W.codeIn K cd5 "Sight.pair_at_end" = true) (k5 : PySem.W.keepIn K (.ref f5) = true)
    {od6 an6 : Option Addr} {sl6 : Array (Option Value)} {oc6 kV6 dc6 pm6 cd6 ct6 : Value}
    (iO6 : PySem.W.findIn K (.ref cO) "first" = some (some (.ref f6))) (fO6 : PySem.W.isFn K (.ref f6) = true) (l6 : K.lookup f6 = some ⟨oc6, od6, .func (PySem.W.fnOf "first" "Sight.first" (defArgs s_Sight_first) (defBody s_Sight_first) (defScope s_Sight_first) .none kV6 dc6 pm6 an6 cd6 ct6), sl6⟩) (c_6 : PySem.W.codeIn K cd6 "Sight.first" = true) (k6 : PySem.W.keepIn K (.ref f6) = true)
    {od7 an7 : Option Addr} {sl7 : Array (Option Value)} {oc7 kV7 dc7 pm7 cd7 ct7 : Value}
    (iO7 : PySem.W.findIn K (.ref cO) "by_letter" = some (some (.ref f7))) (fO7 : PySem.W.isFn K (.ref f7) = true) (l7 : K.lookup f7 = some ⟨oc7, od7, .func (PySem.W.fnOf "by_letter" "Sight.by_letter" (defArgs s_Sight_by_letter) (defBody s_Sight_by_letter) (defScope s_Sight_by_letter) .none kV7 dc7 pm7 an7 cd7 ct7), sl7⟩) (c_7 : PySem.W.codeIn K cd7 "Sight.by_letter" = true) (k7 : PySem.W.keepIn K (.ref f7) = true)
    {od8 an8 : Option Addr} {sl8 : Array (Option Value)} {oc8 kV8 dc8 pm8 cd8 ct8 : Value}
    (iO8 : PySem.W.findIn K (.ref cO) "by_end" = some (some (.ref f8))) (fO8 : PySem.W.isFn K (.ref f8) = true) (l8 : K.lookup f8 = some ⟨oc8, od8, .func (PySem.W.fnOf "by_end" "Sight.by_end" (defArgs s_Sight_by_end) (defBody s_Sight_by_end) (defScope s_Sight_by_end) .none kV8 dc8 pm8 an8 cd8 ct8), sl8⟩) (c_8 : PySem.W.codeIn K cd8 "Sight.by_end" = true) (k8 : PySem.W.keepIn K (.ref f8) = true)
    {od9 an9 : Option Addr} {sl9 : Array (Option Value)} {oc9 kV9 dc9 pm9 cd9 ct9 : Value}
    (a9 : PySem.W.nsIn K mainGlobals "first_view" = some (some (.ref f9))) (l9 : K.lookup f9 = some ⟨oc9, od9, .func (PySem.W.fnOf "first_view" "first_view" (defArgs s_first_view) (defBody s_first_view) (defScope s_first_view) .none kV9 dc9 pm9 an9 cd9 ct9), sl9⟩) (c_9 : PySem.W.codeIn K cd9 "first_view" = true) (k9 : PySem.W.keepIn K (.ref f9) = true)
    {od10 an10 : Option Addr} {sl10 : Array (Option Value)} {oc10 kV10 dc10 pm10 cd10 ct10 : Value}
    (a10 : PySem.W.nsIn K mainGlobals "next_views" = some (some (.ref f10))) (l10 : K.lookup f10 = some ⟨oc10, od10, .func (PySem.W.fnOf "next_views" "next_views" (defArgs s_next_views) (defBody s_next_views) (defScope s_next_views) .none kV10 dc10 pm10 an10 cd10 ct10), sl10⟩) (c_10 : PySem.W.codeIn K cd10 "next_views" = true) (k10 : PySem.W.keepIn K (.ref f10) = true)
    {od11 an11 : Option Addr} {sl11 : Array (Option Value)} {oc11 kV11 dc11 pm11 cd11 ct11 : Value}
    (a11 : PySem.W.nsIn K mainGlobals "last_pairs" = some (some (.ref f11))) (l11 : K.lookup f11 = some ⟨oc11, od11, .func (PySem.W.fnOf "last_pairs" "last_pairs" (defArgs s_last_pairs) (defBody s_last_pairs) (defScope s_last_pairs) .none kV11 dc11 pm11 an11 cd11 ct11), sl11⟩) (c_11 : PySem.W.codeIn K cd11 "last_pairs" = true) (k11 : PySem.W.keepIn K (.ref f11) = true)
    {od12 an12 : Option Addr} {sl12 : Array (Option Value)} {oc12 kV12 dc12 pm12 cd12 ct12 : Value}
    (a12 : PySem.W.nsIn K mainGlobals "_law_row" = some (some (.ref f12))) (l12 : K.lookup f12 = some ⟨oc12, od12, .func (PySem.W.fnOf "_law_row" "_law_row" (defArgs s_law_row) (defBody s_law_row) (defScope s_law_row) .none kV12 dc12 pm12 an12 cd12 ct12), sl12⟩) (c_12 : PySem.W.codeIn K cd12 "_law_row" = true) (k12 : PySem.W.keepIn K (.ref f12) = true)
    {od13 an13 : Option Addr} {sl13 : Array (Option Value)} {oc13 kV13 dc13 pm13 cd13 ct13 : Value}
    (a13 : PySem.W.nsIn K mainGlobals "_law_letters" = some (some (.ref f13))) (l13 : K.lookup f13 = some ⟨oc13, od13, .func (PySem.W.fnOf "_law_letters" "_law_letters" (defArgs s_law_letters) (defBody s_law_letters) (defScope s_law_letters) .none kV13 dc13 pm13 an13 cd13 ct13), sl13⟩) (c_13 : PySem.W.codeIn K cd13 "_law_letters" = true) (k13 : PySem.W.keepIn K (.ref f13) = true)
    {od14 an14 : Option Addr} {sl14 : Array (Option Value)} {oc14 kV14 dc14 pm14 cd14 ct14 : Value}
    (a14 : PySem.W.nsIn K mainGlobals "_law_pattern" = some (some (.ref f14))) (l14 : K.lookup f14 = some ⟨oc14, od14, .func (PySem.W.fnOf "_law_pattern" "_law_pattern" (defArgs s_law_pattern) (defBody s_law_pattern) (defScope s_law_pattern) .none kV14 dc14 pm14 an14 cd14 ct14), sl14⟩) (c_14 : PySem.W.codeIn K cd14 "_law_pattern" = true) (k14 : PySem.W.keepIn K (.ref f14) = true)
    {od15 an15 : Option Addr} {sl15 : Array (Option Value)} {oc15 kV15 dc15 pm15 cd15 ct15 : Value}
    (a15 : PySem.W.nsIn K mainGlobals "_law_greatest" = some (some (.ref f15))) (l15 : K.lookup f15 = some ⟨oc15, od15, .func (PySem.W.fnOf "_law_greatest" "_law_greatest" (defArgs s_law_greatest) (defBody s_law_greatest) (defScope s_law_greatest) .none kV15 dc15 pm15 an15 cd15 ct15), sl15⟩) (c_15 : PySem.W.codeIn K cd15 "_law_greatest" = true) (k15 : PySem.W.keepIn K (.ref f15) = true)
    {od16 an16 : Option Addr} {sl16 : Array (Option Value)} {oc16 kV16 dc16 pm16 cd16 ct16 : Value}
    (a16 : PySem.W.nsIn K mainGlobals "_law_values" = some (some (.ref f16))) (l16 : K.lookup f16 = some ⟨oc16, od16, .func (PySem.W.fnOf "_law_values" "_law_values" (defArgs s_law_values) (defBody s_law_values) (defScope s_law_values) .none kV16 dc16 pm16 an16 cd16 ct16), sl16⟩) (c_16 : PySem.W.codeIn K cd16 "_law_values" = true) (k16 : PySem.W.keepIn K (.ref f16) = true)
    {od17 an17 : Option Addr} {sl17 : Array (Option Value)} {oc17 kV17 dc17 pm17 cd17 ct17 : Value}
    (a17 : PySem.W.nsIn K mainGlobals "_law_lists" = some (some (.ref f17))) (l17 : K.lookup f17 = some ⟨oc17, od17, .func (PySem.W.fnOf "_law_lists" "_law_lists" (defArgs s_law_lists) (defBody s_law_lists) (defScope s_law_lists) .none kV17 dc17 pm17 an17 cd17 ct17), sl17⟩) (c_17 : PySem.W.codeIn K cd17 "_law_lists" = true) (k17 : PySem.W.keepIn K (.ref f17) = true)
    {od18 an18 : Option Addr} {sl18 : Array (Option Value)} {oc18 kV18 dc18 pm18 cd18 ct18 : Value}
    (a18 : PySem.W.nsIn K mainGlobals "_law_read" = some (some (.ref f18))) (l18 : K.lookup f18 = some ⟨oc18, od18, .func (PySem.W.fnOf "_law_read" "_law_read" (defArgs s_law_read) (defBody s_law_read) (defScope s_law_read) .none kV18 dc18 pm18 an18 cd18 ct18), sl18⟩) (c_18 : PySem.W.codeIn K cd18 "_law_read" = true) (k18 : PySem.W.keepIn K (.ref f18) = true)
    {od19 an19 : Option Addr} {sl19 : Array (Option Value)} {oc19 kV19 dc19 pm19 cd19 ct19 : Value}
    (a19 : PySem.W.nsIn K mainGlobals "law" = some (some (.ref f19))) (l19 : K.lookup f19 = some ⟨oc19, od19, .func (PySem.W.fnOf "law" "law" (defArgs s_law) (defBody s_law) (defScope s_law) .none kV19 dc19 pm19 an19 cd19 ct19), sl19⟩) (c_19 : PySem.W.codeIn K cd19 "law" = true) (k19 : PySem.W.keepIn K (.ref f19) = true)
    (z_len : PySem.W.nsIn K mainGlobals "len" = some none)
    (z_abs : PySem.W.nsIn K mainGlobals "abs" = some none)
    (z_all : PySem.W.nsIn K mainGlobals "all" = some none)
    (z_any : PySem.W.nsIn K mainGlobals "any" = some none)
    (z_range : PySem.W.nsIn K mainGlobals "range" = some none)
    (z_enumerate : PySem.W.nsIn K mainGlobals "enumerate" = some none)
    (z_isinstance : PySem.W.nsIn K mainGlobals "isinstance" = some none)
    (z_tuple : PySem.W.nsIn K mainGlobals "tuple" = some none)
    (z_list : PySem.W.nsIn K mainGlobals "list" = some none)
    (z_bool : PySem.W.nsIn K mainGlobals "bool" = some none)
    (z_str : PySem.W.nsIn K mainGlobals "str" = some none)
    (z_int : PySem.W.nsIn K mainGlobals "int" = some none)
    (z_min : PySem.W.nsIn K mainGlobals "min" = some none)
    (z_max : PySem.W.nsIn K mainGlobals "max" = some none)
    (z_zip : PySem.W.nsIn K mainGlobals "zip" = some none)
    (z_sorted : PySem.W.nsIn K mainGlobals "sorted" = some none)
    : ∃ fd : FuncData, (∀ (s : Shared) (v : Value), BindsTo s fd ⟨[v], []⟩ [("_law_script", v)]) ∧ ∀ base : Heap, K.In base → base.Ns mainGlobals mg → FnOk l.prog w K mg base CX0 8 fa fd ["_law_script"] (spLaw K) := by
  have e := hfa.symm.trans (PySem.W.mg_of X G a19)
  cases e
  have T : Txt mg (fun i => ([] : List Tok).getD i 0) := ⟨PySem.W.mg_none_of X G z_len, PySem.W.mg_none_of X G z_abs, PySem.W.mg_none_of X G z_all, PySem.W.mg_none_of X G z_any, PySem.W.mg_none_of X G z_range, PySem.W.mg_none_of X G z_enumerate, PySem.W.mg_none_of X G z_isinstance, PySem.W.mg_none_of X G z_tuple, PySem.W.mg_none_of X G z_list, PySem.W.mg_none_of X G z_bool, PySem.W.mg_none_of X G z_str, PySem.W.mg_none_of X G z_int, PySem.W.mg_none_of X G z_min, PySem.W.mg_none_of X G z_max, PySem.W.mg_none_of X G z_zip, PySem.W.mg_none_of X G z_sorted⟩
  have O : Ow K mg cO := ⟨PySem.W.mg_of X G aO, ⟨pO, dO, vO, sO⟩, n_known, n_one_numbers, n_other_numbers⟩
  have F_beginnings := fun_mk (st := s_beginnings) l0 c_0 k0
  have b_beginnings := F_beginnings.binds (ps := ["patterns"]) fun _ _ _ _ _ _ us hl => match us, hl with | [_], _ => rfl
  have m_beginnings := PySem.W.mg_of X G a0
  have F_greatest_numbers := fun_mk (st := s_greatest_numbers) l1 c_1 k1
  have b_greatest_numbers := F_greatest_numbers.binds (ps := ["patterns"]) fun _ _ _ _ _ _ us hl => match us, hl with | [_], _ => rfl
  have m_greatest_numbers := PySem.W.mg_of X G a1
  have F_told_at_end := fun_mk (st := s_told_at_end) l2 c_2 k2
  have b_told_at_end := F_told_at_end.binds (ps := ["numbers_by_signs", "text", "back"]) fun _ _ _ _ _ _ us hl => match us, hl with | [_, _, _], _ => rfl
  have m_told_at_end := PySem.W.mg_of X G a2
  have F_Sight_init := fun_mk (st := s_Sight_init) l3 c_3 k3
  have b_Sight_init := F_Sight_init.binds (ps := ["self", "one", "other"]) fun _ _ _ _ _ _ us hl => match us, hl with | [_, _, _], _ => rfl
  have F_Sight_tail_of := fun_mk (st := s_Sight_tail_of) l4 c_4 k4
  have b_Sight_tail_of := F_Sight_tail_of.binds (ps := ["self", "text"]) fun _ _ _ _ _ _ us hl => match us, hl with | [_, _], _ => rfl
  have F_Sight_pair_at_end := fun_mk (st := s_Sight_pair_at_end) l5 c_5 k5
  have b_Sight_pair_at_end := F_Sight_pair_at_end.binds (ps := ["self", "text", "back", "ones", "others"]) fun _ _ _ _ _ _ us hl => match us, hl with | [_, _, _, _, _], _ => rfl
  have F_Sight_first := fun_mk (st := s_Sight_first) l6 c_6 k6
  have b_Sight_first := F_Sight_first.binds (ps := ["self"]) fun _ _ _ _ _ _ us hl => match us, hl with | [_], _ => rfl
  have F_Sight_by_letter := fun_mk (st := s_Sight_by_letter) l7 c_7 k7
  have b_Sight_by_letter := F_Sight_by_letter.binds (ps := ["self", "view", "letter"]) fun _ _ _ _ _ _ us hl => match us, hl with | [_, _, _], _ => rfl
  have F_Sight_by_end := fun_mk (st := s_Sight_by_end) l8 c_8 k8
  have b_Sight_by_end := F_Sight_by_end.binds (ps := ["self", "view"]) fun _ _ _ _ _ _ us hl => match us, hl with | [_, _], _ => rfl
  have F_first_view := fun_mk (st := s_first_view) l9 c_9 k9
  have b_first_view := F_first_view.binds (ps := ["one", "other"]) fun _ _ _ _ _ _ us hl => match us, hl with | [_, _], _ => rfl
  have m_first_view := PySem.W.mg_of X G a9
  have F_next_views := fun_mk (st := s_next_views) l10 c_10 k10
  have b_next_views := F_next_views.binds (ps := ["one", "other", "view", "letter"]) fun _ _ _ _ _ _ us hl => match us, hl with | [_, _, _, _], _ => rfl
  have m_next_views := PySem.W.mg_of X G a10
  have F_last_pairs := fun_mk (st := s_last_pairs) l11 c_11 k11
  have b_last_pairs := F_last_pairs.binds (ps := ["one", "other", "view"]) fun _ _ _ _ _ _ us hl => match us, hl with | [_, _, _], _ => rfl
  have m_last_pairs := PySem.W.mg_of X G a11
  have F_law_row := fun_mk (st := s_law_row) l12 c_12 k12
  have b_law_row := F_law_row.binds (ps := ["_law_script", "_law_at", "_law_bounds"]) fun _ _ _ _ _ _ us hl => match us, hl with | [_, _, _], _ => rfl
  have m_law_row := PySem.W.mg_of X G a12
  have F_law_letters := fun_mk (st := s_law_letters) l13 c_13 k13
  have b_law_letters := F_law_letters.binds (ps := ["_law_numbers"]) fun _ _ _ _ _ _ us hl => match us, hl with | [_], _ => rfl
  have m_law_letters := PySem.W.mg_of X G a13
  have F_law_pattern := fun_mk (st := s_law_pattern) l14 c_14 k14
  have b_law_pattern := F_law_pattern.binds (ps := ["_law_script", "_law_at", "_law_letters_here"]) fun _ _ _ _ _ _ us hl => match us, hl with | [_, _, _], _ => rfl
  have m_law_pattern := PySem.W.mg_of X G a14
  have F_law_greatest := fun_mk (st := s_law_greatest) l15 c_15 k15
  have b_law_greatest := F_law_greatest.binds (ps := ["_law_patterns", "_law_read_here", "_law_place"]) fun _ _ _ _ _ _ us hl => match us, hl with | [_, _, _], _ => rfl
  have m_law_greatest := PySem.W.mg_of X G a15
  have F_law_values := fun_mk (st := s_law_values) l16 c_16 k16
  have b_law_values := F_law_values.binds (ps := ["_law_patterns", "_law_word"]) fun _ _ _ _ _ _ us hl => match us, hl with | [_, _], _ => rfl
  have m_law_values := PySem.W.mg_of X G a16
  have F_law_lists := fun_mk (st := s_law_lists) l17 c_17 k17
  have b_law_lists := F_law_lists.binds (ps := ["_law_script", "_law_letters_here"]) fun _ _ _ _ _ _ us hl => match us, hl with | [_, _], _ => rfl
  have m_law_lists := PySem.W.mg_of X G a17
  have F_law_read := fun_mk (st := s_law_read) l18 c_18 k18
  have b_law_read := F_law_read.binds (ps := ["_law_one", "_law_other", "_law_word"]) fun _ _ _ _ _ _ us hl => match us, hl with | [_, _, _], _ => rfl
  have m_law_read := PySem.W.mg_of X G a18
  have F_law := fun_mk (st := s_law) l19 c_19 k19
  have b_law := F_law.binds (ps := ["_law_script"]) fun _ _ _ _ _ _ us hl => match us, hl with | [_], _ => rfl
  have m_law := PySem.W.mg_of X G a19
  refine ⟨PySem.W.fnOf "law" "law" (defArgs s_law) (defBody s_law) (defScope s_law) .none kV19 dc19 pm19 an19 cd19 ct19, fun s v => .of_eq rfl, fun base _ _ => ?_⟩
  have D_beginnings : Dn l.prog w K mg base "beginnings" 1 ["patterns"] spBegs := ⟨_, _, m_beginnings, F_beginnings.kp, b_beginnings, ok_beginnings T F_beginnings⟩
  have D_greatest_numbers : Dn l.prog w K mg base "greatest_numbers" 1 ["patterns"] spGrt := ⟨_, _, m_greatest_numbers, F_greatest_numbers.kp, b_greatest_numbers, ok_greatest_numbers T F_greatest_numbers⟩
  have D_told_at_end : Dn l.prog w K mg base "told_at_end" 1 ["numbers_by_signs", "text", "back"] spTAE := ⟨_, _, m_told_at_end, F_told_at_end.kp, b_told_at_end, ok_told_at_end T F_told_at_end⟩
  have D_Sight_init : Dk l.prog w K mg base cO 2 ["self", "one", "other"] (spSightI cO) := ⟨_, _, ⟨mO, iO3, fO3, kO⟩, b_Sight_init, ok_Sight_init T O F_Sight_init D_beginnings D_greatest_numbers⟩
  have D_Sight_tail_of : Dm l.prog w K mg base cO "tail_of" 1 ["self", "text"] (spTail cO) := ⟨_, _, ⟨iO4, fO4, k4⟩, b_Sight_tail_of, ok_Sight_tail_of T O F_Sight_tail_of⟩
  have D_Sight_pair_at_end : Dm l.prog w K mg base cO "pair_at_end" 2 ["self", "text", "back", "ones", "others"] (spPair cO) := ⟨_, _, ⟨iO5, fO5, k5⟩, b_Sight_pair_at_end, ok_Sight_pair_at_end T O F_Sight_pair_at_end D_told_at_end⟩
  have D_Sight_first : Dm l.prog w K mg base cO "first" 2 ["self"] (spFirst cO) := ⟨_, _, ⟨iO6, fO6, k6⟩, b_Sight_first, ok_Sight_first T O F_Sight_first D_Sight_tail_of⟩
  have D_Sight_by_letter : Dm l.prog w K mg base cO "by_letter" 3 ["self", "view", "letter"] (spByLetter cO) := ⟨_, _, ⟨iO7, fO7, k7⟩, b_Sight_by_letter, ok_Sight_by_letter T O F_Sight_by_letter D_Sight_tail_of D_Sight_pair_at_end⟩
  have D_Sight_by_end : Dm l.prog w K mg base cO "by_end" 3 ["self", "view"] (spByEnd cO) := ⟨_, _, ⟨iO8, fO8, k8⟩, b_Sight_by_end, ok_Sight_by_end T O F_Sight_by_end D_Sight_pair_at_end⟩
  have D_first_view : Dn l.prog w K mg base "first_view" 4 ["one", "other"] spFirstV := ⟨_, _, m_first_view, F_first_view.kp, b_first_view, ok_first_view T O F_first_view D_Sight_init D_Sight_first⟩
  have D_next_views : Dn l.prog w K mg base "next_views" 4 ["one", "other", "view", "letter"] spNextV := ⟨_, _, m_next_views, F_next_views.kp, b_next_views, ok_next_views T O F_next_views D_Sight_init D_Sight_by_letter⟩
  have D_last_pairs : Dn l.prog w K mg base "last_pairs" 4 ["one", "other", "view"] spLastP := ⟨_, _, m_last_pairs, F_last_pairs.kp, b_last_pairs, ok_last_pairs T O F_last_pairs D_Sight_init D_Sight_by_end⟩
  have D_law_row : Dn l.prog w K mg base "_law_row" 1 ["_law_script", "_law_at", "_law_bounds"] (spRow K) := ⟨_, _, m_law_row, F_law_row.kp, b_law_row, ok_law_row T F_law_row⟩
  have D_law_letters : Dn l.prog w K mg base "_law_letters" 1 ["_law_numbers"] spLets := ⟨_, _, m_law_letters, F_law_letters.kp, b_law_letters, ok_law_letters T F_law_letters⟩
  have D_law_pattern : Dn l.prog w K mg base "_law_pattern" 2 ["_law_script", "_law_at", "_law_letters_here"] (spPat K) := ⟨_, _, m_law_pattern, F_law_pattern.kp, b_law_pattern, ok_law_pattern T F_law_pattern D_law_row⟩
  have D_law_greatest : Dn l.prog w K mg base "_law_greatest" 1 ["_law_patterns", "_law_read_here", "_law_place"] spGreat := ⟨_, _, m_law_greatest, F_law_greatest.kp, b_law_greatest, ok_law_greatest T F_law_greatest⟩
  have D_law_values : Dn l.prog w K mg base "_law_values" 2 ["_law_patterns", "_law_word"] spVals := ⟨_, _, m_law_values, F_law_values.kp, b_law_values, ok_law_values T F_law_values D_law_greatest⟩
  have D_law_lists : Dn l.prog w K mg base "_law_lists" 3 ["_law_script", "_law_letters_here"] (spLists K) := ⟨_, _, m_law_lists, F_law_lists.kp, b_law_lists, ok_law_lists T F_law_lists D_law_row D_law_pattern⟩
  have D_law_read : Dn l.prog w K mg base "_law_read" 5 ["_law_one", "_law_other", "_law_word"] spRead := ⟨_, _, m_law_read, F_law_read.kp, b_law_read, ok_law_read T F_law_read D_first_view D_next_views D_last_pairs⟩
  exact ok_law T F_law D_law_row D_law_letters D_law_lists D_law_values D_law_read
theorem walk {l : PySem.W.OpenLaw} {q : Program} {loose : List Str} {XP : (Str → Option Value) → Heap → Prop} {YP : World → Heap → Prop} {d : DefRec} {K : Params → PySem.W.Frag} (hn : l.most = some 63) (hdf : d.params.defaults = [])
    (hY : ∀ (w : World) (h : Heap), YP w h → (K w.params).In h)
    (F : ∀ (w : World) (mg : Str → Option Value) (fa : Addr) (h : Heap), (K w.params).In h → h.Ns mainGlobals mg → mg d.name = some (.ref fa) →
      ∃ fd : FuncData, (∀ (s : Shared) (u : Value), BindsTo s fd ⟨[u], []⟩ [("_law_script", u)]) ∧ ∀ base : Heap, (K w.params).In base → base.Ns mainGlobals mg → FnOk l.prog w (K w.params) mg base CX0 8 fa fd ["_law_script"] (spLaw (K w.params))) :
    PySem.W.WalkO q loose XP YP l.row.toRowW d [] (fun f vs => PySem.call f vs) :=
  L2.walk_of (n := 63) (k := 8) (x := "_law_script") (CX := fun _ => CX0) (sp := fun w => spLaw (K w.params)) hn (by decide) hdf ⟨rfl, by decide, by decide⟩ hY F (fun _ _ a ns hl _ hS => ⟨a, ns, rfl, hS, hl, fun _ => rfl⟩) fun _ _ _ _ _ z => z
end K31
open PySem PySem.W PyProof.Rows
set_option maxRecDepth 100000 in
set_option maxHeartbeats 0 in
theorem PySem.Challenge.cw_breakwords_k31_settled_pairs_are_values_holds : PySem.Challenge.rw_breakwords_k31_settled_pairs_are_values.Holds := by
  w_on; o_law; k_head; (case hw => w_witness2)
  k_fill
  refine K31.walk (l := PySem.Challenge.rw_breakwords_k31_settled_pairs_are_values) rfl rfl (fun w h Y => PySem.W.kIn_of Y) ?F
  case F =>
    intro w mg fa h KX G hmg
    refine' K31.all_mk KX G hmg ?aO ?pO ?dO ?vO ?sO ?mO ?kO ?n_known ?n_one_numbers ?n_other_numbers ?a0 ?l0 ?c_0 ?k0 ?a1 ?l1 ?c_1 ?k1 ?a2 ?l2 ?c_2 ?k2 ?iO3 ?fO3 ?l3 ?c_3 ?k3 ?iO4 ?fO4 ?l4 ?c_4 ?k4 ?iO5 ?fO5 ?l5 ?c_5 ?k5 ?iO6 ?fO6 ?l6 ?c_6 ?k6 ?iO7 ?fO7 ?l7 ?c_7 ?k7 ?iO8 ?fO8 ?l8 ?c_8 ?k8 ?a9 ?l9 ?c_9 ?k9 ?a10 ?l10 ?c_10 ?k10 ?a11 ?l11 ?c_11 ?k11 ?a12 ?l12 ?c_12 ?k12 ?a13 ?l13 ?c_13 ?k13 ?a14 ?l14 ?c_14 ?k14 ?a15 ?l15 ?c_15 ?k15 ?a16 ?l16 ?c_16 ?k16 ?a17 ?l17 ?c_17 ?k17 ?a18 ?l18 ?c_18 ?k18 ?a19 ?l19 ?c_19 ?k19 ?z_len ?z_abs ?z_all ?z_any ?z_range ?z_enumerate ?z_isinstance ?z_tuple ?z_list ?z_bool ?z_str ?z_int ?z_min ?z_max ?z_zip ?z_sorted
    (case aO => k_is)
    (case pO => k_is)
    (case dO => k_is)
    (case vO => k_is)
    (case sO => k_is)
    (case mO => k_is)
    (case kO => k_is)
    (case n_known => k_is)
    (case n_one_numbers => k_is)
    (case n_other_numbers => k_is)
    (case a0 => k_is)
    (case l0 => k_is)
    (case c_0 => k_is)
    (case k0 => k_is)
    (case a1 => k_is)
    (case l1 => k_is)
    (case c_1 => k_is)
    (case k1 => k_is)
    (case a2 => k_is)
    (case l2 => k_is)
    (case c_2 => k_is)
    (case k2 => k_is)
    (case iO3 => k_is)
    (case fO3 => k_is)
    (case l3 => k_is)
    (case c_3 => k_is)
    (case k3 => k_is)
    (case iO4 => k_is)
    (case fO4 => k_is)
    (case l4 => k_is)
    (case c_4 => k_is)
    (case k4 => k_is)
    (case iO5 => k_is)
    (case fO5 => k_is)
    (case l5 => k_is)
    (case c_5 => k_is)
    (case k5 => k_is)
    (case iO6 => k_is)
    (case fO6 => k_is)
    (case l6 => k_is)
    (case c_6 => k_is)
    (case k6 => k_is)
    (case iO7 => k_is)
    (case fO7 => k_is)
    (case l7 => k_is)
    (case c_7 => k_is)
    (case k7 => k_is)
    (case iO8 => k_is)
    (case fO8 => k_is)
    (case l8 => k_is)
    (case c_8 => k_is)
    (case k8 => k_is)
    (case a9 => k_is)
    (case l9 => k_is)
    (case c_9 => k_is)
    (case k9 => k_is)
    (case a10 => k_is)
    (case l10 => k_is)
    (case c_10 => k_is)
    (case k10 => k_is)
    (case a11 => k_is)
    (case l11 => k_is)
    (case c_11 => k_is)
    (case k11 => k_is)
    (case a12 => k_is)
    (case l12 => k_is)
    (case c_12 => k_is)
    (case k12 => k_is)
    (case a13 => k_is)
    (case l13 => k_is)
    (case c_13 => k_is)
    (case k13 => k_is)
    (case a14 => k_is)
    (case l14 => k_is)
    (case c_14 => k_is)
    (case k14 => k_is)
    (case a15 => k_is)
    (case l15 => k_is)
    (case c_15 => k_is)
    (case k15 => k_is)
    (case a16 => k_is)
    (case l16 => k_is)
    (case c_16 => k_is)
    (case k16 => k_is)
    (case a17 => k_is)
    (case l17 => k_is)
    (case c_17 => k_is)
    (case k17 => k_is)
    (case a18 => k_is)
    (case l18 => k_is)
    (case c_18 => k_is)
    (case k18 => k_is)
    (case a19 => k_is)
    (case l19 => k_is)
    (case c_19 => k_is)
    (case k19 => k_is)
    (case z_len => k_is)
    (case z_abs => k_is)
    (case z_all => k_is)
    (case z_any => k_is)
    (case z_range => k_is)
    (case z_enumerate => k_is)
    (case z_isinstance => k_is)
    (case z_tuple => k_is)
    (case z_list => k_is)
    (case z_bool => k_is)
    (case z_str => k_is)
    (case z_int => k_is)
    (case z_min => k_is)
    (case z_max => k_is)
    (case z_zip => k_is)
    (case z_sorted => k_is)
#print axioms PySem.Challenge.cw_breakwords_k31_settled_pairs_are_values_holds
namespace K31
end K31

