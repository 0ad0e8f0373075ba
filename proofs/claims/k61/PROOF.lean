import PyProof.Rows.All
import Wide.All
import OpenK.AllK
import Wide.FinOn
import Lean
import PyProof.EqAt
import PyProof.EqKinds
import PyProof.TupleCall
import PyProof.StrLawsIn
import PyProof.CompFree
import PyProof.P3Eq
import PyProof.Draws
import PyProof.EnumMake
import PyProof.WalksMore
import KE.KDictOf
import PyProof.ZipIter
import PyProof.WalkInts
import PyProof.SeqI3
import KE.KIntText
import PyProof.AutoListH
import PyProof.ExcClass2
import PyProof.ExcBaseAll.ValueError
import PyProof.InstStore
import PyProof.InstStoreFacts
import PyProof.StationsW
import PyProof.ExcArgsOwn
import PyProof.ExcAttrAll.ValueError
import PyProof.FString
import PyProof.FitsInt
import PyProof.PureStr
import PyProof.Rows.FactsFmt
import OpenK.KRaise
import PyProof.RulesAs
import PyProof.RulesDel
import PySem.Challenge.RW_breakwords_k61_words_told_twice
-- CHANGE: your row's module here, as the last of these rows
set_option Elab.async false
set_option linter.all false
set_option maxRecDepth 100000
/-! THE HAND LAYER, for ints, bools, texts, own classes, LISTS and tuples (index, slices, in, append, pop ..), calls, loops. Paste it whole ahead of your own text; what your proof does not reach may be deleted. -/
namespace L2
open PySem PySem.Spec PyProof.Rows

/-- a key: an int or a str -/
abbrev Key := Sum Int Str
def keyIs : Key → Value → Bool
  | .inl k, v => Value.isInt k v
  | .inr x, v => Value.isStrOf x v
def keyH (w : World) : Key → Int
  | .inl k => hashInt k
  | .inr x => hashStr w x
theorem keyIs_shape : ∀ {k : Key} {v : Value}, keyIs k v = true → (∃ i t, k = Sum.inl i ∧ v = Value.int i t) ∨ (∃ x t, k = Sum.inr x ∧ v = Value.str x t)
  | .inl i, v, h => by
    obtain ⟨t, e⟩ := Value.isInt_shape (k := i) (v := v) h
    exact .inl ⟨i, t, rfl, e⟩
  | .inr x, v, h => by
    obtain ⟨t, e⟩ := Value.isStrOf_shape (x := x) (v := v) h
    exact .inr ⟨x, t, rfl, e⟩
theorem keyIs_int (i : Int) (t : Tok) : keyIs (.inl i) (.int i t) = true := by simp [keyIs, Value.isInt]
theorem keyIs_str (x : Str) (t : Tok) : keyIs (.inr x) (.str x t) = true := by simp [keyIs, Value.isStrOf]
theorem key_ll (a b : Int) : decide ((Sum.inl a : Key) = Sum.inl b) = (a == b) := by
  by_cases e : a = b
  · subst e; simp
  · have h : ¬ (Sum.inl a : Key) = Sum.inl b := fun q => e (Sum.inl.inj q)
    rw [decide_eq_false h]
    exact (beq_eq_false_iff_ne.mpr e).symm
theorem key_rr (a b : Str) : decide ((Sum.inr a : Key) = Sum.inr b) = decide (a = b) := by
  by_cases e : a = b
  · subst e; simp
  · have h : ¬ (Sum.inr a : Key) = Sum.inr b := fun q => e (Sum.inr.inj q)
    rw [decide_eq_false h, decide_eq_false e]
theorem key_lr (a : Int) (b : Str) : decide ((Sum.inl a : Key) = Sum.inr b) = false := decide_eq_false (fun q => nomatch q)
theorem key_rl (a : Str) (b : Int) : decide ((Sum.inr a : Key) = Sum.inl b) = false := decide_eq_false (fun q => nomatch q)

def mixKind (prog : Program) (w : World) : PySem.KeyKind prog w Key where
  is := keyIs
  hash := keyH w
  inj := fun v a b ha hb => by
    rcases keyIs_shape ha with ⟨i, t, rfl, rfl⟩ | ⟨x, t, rfl, rfl⟩
    · rcases keyIs_shape hb with ⟨j, u, rfl, e⟩ | ⟨y, u, rfl, e⟩
      · injection e with e1 _; rw [e1]
      · exact nomatch e
    · rcases keyIs_shape hb with ⟨j, u, rfl, e⟩ | ⟨y, u, rfl, e⟩
      · exact nomatch e
      · injection e with e1 _; rw [e1]
  byValue := fun k v h => by
    rcases keyIs_shape h with ⟨i, t, rfl, rfl⟩ | ⟨x, t, rfl, rfl⟩ <;> rfl
  pyHash := fun hv h => by
    rcases keyIs_shape hv with ⟨i, t, rfl, rfl⟩ | ⟨x, t, rfl, rfl⟩
    · exact wpAny_pyHash_int h
    · exact wpAny_pyHash_str h
  eqBool := fun hu hv h => by
    rcases keyIs_shape hu with ⟨i, t, rfl, rfl⟩ | ⟨x, t, rfl, rfl⟩
    · rcases keyIs_shape hv with ⟨j, u, rfl, rfl⟩ | ⟨y, u, rfl, rfl⟩
      · rw [key_ll] at h; exact wpAny_eqBool_int h
      · rw [key_lr] at h; exact SeqAt.EqAt.int_str i t y u _ _ _ _ h
    · rcases keyIs_shape hv with ⟨j, u, rfl, rfl⟩ | ⟨y, u, rfl, rfl⟩
      · rw [key_rl] at h; exact SeqAt.EqAt.str_int x t j u _ _ _ _ h
      · rw [key_rr] at h; exact wpAny_eqBool_str h
  «strs» := fun k x t v h => by
    rcases keyIs_shape h with ⟨i, u, rfl, e⟩ | ⟨y, u, rfl, e⟩
    · exact nomatch e
    · injection e with e1 _
      subst e1
      cases v <;> rfl

theorem mixKind_int (prog : Program) (w : World) (i : Int) (t : Tok) : (mixKind prog w).is (.inl i) (.int i t) = true := keyIs_int i t
theorem mixKind_str (prog : Program) (w : World) (x : Str) (t : Tok) : (mixKind prog w).is (.inr x) (.str x t) = true := keyIs_str x t
end L2

namespace L2
open PySem PySem.Spec PyProof.Rows

/-- a value, without the heap -/
inductive V where
  | non | bl (b : Bool) | int (i : Int) | str (x : Str) | byt (b : Array UInt8) | flt (b : UInt64) | ref (a : Addr) | ty (n : String)
  deriving DecidableEq

def RelV : V → Value → Prop
  | .non, u => u = Value.none
  | .bl b, u => u = Value.bool b
  | .int i, u => ∃ t, u = Value.int i t
  | .str x, u => ∃ t, u = Value.str x t
  | .byt b, u => ∃ t, u = Value.bytes b t
  | .flt b, u => ∃ t, u = Value.float b t
  | .ref a, u => u = Value.ref a
  | .ty n, u => u = Value.type n

abbrev Vals : List V → List Value → Prop := Paired RelV
theorem Vals.length {xs : List V} {us : List Value} (r : Vals xs us) : xs.length = us.length := Paired.length r
theorem Vals.get : ∀ {xs : List V} {us : List Value} {i : Nat} {x : V}, Vals xs us → xs[i]? = some x → ∃ u, us[i]? = some u ∧ RelV x u
  | _, _, _, _, .nil, e => by simp at e
  | _, _, 0, _, .cons r _, e => by simp at e; subst e; exact ⟨_, rfl, r⟩
  | _, _, i + 1, x, .cons _ t, e => by
    obtain ⟨u, h1, h2⟩ := Vals.get (i := i) (x := x) t (by simpa using e)
    exact ⟨u, by simpa using h1, h2⟩
theorem Vals.set {x : V} {u : Value} (r : RelV x u) : ∀ {xs : List V} {us : List Value} (i : Nat), Vals xs us → Vals (xs.set i x) (us.set i u)
  | _, _, _, .nil => .nil
  | _, _, 0, .cons _ t => .cons r t
  | _, _, i + 1, .cons q t => .cons q (Vals.set r i t)
theorem Vals.append : ∀ {xs ys : List V} {us ws : List Value}, Vals xs us → Vals ys ws → Vals (xs ++ ys) (us ++ ws)
  | _, _, _, _, .nil, s => s
  | _, _, _, _, .cons r t, s => .cons r (Vals.append t s)
theorem Vals.take : ∀ {xs : List V} {us : List Value} (n : Nat), Vals xs us → Vals (xs.take n) (us.take n)
  | _, _, 0, _ => .nil
  | _, _, _ + 1, .nil => .nil
  | _, _, n + 1, .cons r t => .cons r (Vals.take n t)
theorem Vals.drop : ∀ {xs : List V} {us : List Value} (n : Nat), Vals xs us → Vals (xs.drop n) (us.drop n)
  | _, _, 0, r => r
  | _, _, _ + 1, .nil => .nil
  | _, _, n + 1, .cons _ t => Vals.drop n t

def RelO : Option V → Option Value → Prop
  | some v, some u => RelV v u
  | none, none => True
  | _, _ => False
def KV {κ : Type} : List (κ × V) → List (κ × Value) → Prop := Paired fun (p : κ × V) (q : κ × Value) => p.1 = q.1 ∧ RelV p.2 q.2

/-- a key of a dict (00_mix): an int or a text -/
def kV : Key → V
  | .inl i => .int i
  | .inr x => .str x

/-- what stands at a tracked address -/
inductive HO where
  /-- a list -/
  | lst (xs : List V)
  /-- a tuple (never changes) -/
  | tup (xs : List V)
  /-- a dict whose keys are ints and texts; one whose keys are tuples of ints and texts (the empty one is both) -/
  | dK (kvs : List (Key × V)) | dT (kvs : List (List Key × V))
  /-- a set of ints: its members, its size -/
  | set (S : Int → Bool) (n : Nat)
  /-- an instance of the class at C, its dict at dx, its attributes -/
  | ins (C dx : Addr) (fs : List (Str × V))
  /-- the dict of the instance at x -/
  | own (x : Addr)
  /-- the dict of an exception -/
  | xd (fs : List (Str × V))
  /-- a bound method, f of x -/
  | met (f x : Addr)
  /-- a range object lo, lo + 1, .. below hi -/
  | rng (lo hi : Int)
  /-- a thing that is known to the object (the script; a dict while a loop walks it): read, never written while it is so -/
  | frz (o : Obj) (u : HO)
  /-- a code object's table -/
  | tbl (ps : Array Value)
  /-- any other thing, by what is true of its one object (a def of one's own: SetO a S n := HO.ext fun h => ..) -/
  | ext (φ : Heap → Prop)

abbrev Hp := Addr → Option HO
def upd (H : Hp) (a : Addr) (o : HO) : Hp := fun b => if b = a then some o else H b
theorem upd_same {H : Hp} {a : Addr} {o : HO} : upd H a o a = some o := by unfold upd; rw [if_pos rfl]
theorem upd_ne {H : Hp} {a b : Addr} {o : HO} (h : b ≠ a) : upd H a o b = H b := by unfold upd; rw [if_neg h]
theorem upd_upd {H : Hp} {a : Addr} {o u : HO} : upd (upd H a o) a u = upd H a u := by
  funext b; unfold upd; split <;> rfl
/-- two objects of different content stand apart -/
theorem ne_of {H : Hp} {a b : Addr} {o u : HO} (h : H a = some o) (h' : H b = some u) (d : o ≠ u) : a ≠ b := by
  intro e; subst e; rw [h] at h'; exact d (Option.some.inj h')
theorem ne_of_none {H : Hp} {a b : Addr} {o : HO} (h : H a = some o) (h' : H b = none) : a ≠ b := by
  intro e; subst e; rw [h] at h'; cases h'

section
variable (P : Program) (w : World)
def ObjOk (H : Hp) (h : Heap) (a : Addr) : HO → Prop
  | .lst xs => xs.length ≤ sizeLine ∧ ∃ (its : List Value) (n : Nat), Vals xs its ∧ h.get? a = some { cls := .type "list", data := .seq its.toArray n }
  | .tup xs => xs.length ≤ sizeLine ∧ ∃ its : List Value, Vals xs its ∧ IsTup h a its.toArray
  | .dK kvs => kvs.length ≤ sizeLine ∧ (a == sysModules) = false ∧ ∃ vs, KV kvs vs ∧ h.DictOf (mixKind P w) a vs
  | .dT kvs => kvs.length ≤ sizeLine ∧ (a == sysModules) = false ∧ ∃ xs : List (List Key × Addr × Value),
      Paired (fun (p : List Key × V) (q : List Key × Addr × Value) => p.1 = q.1 ∧ H q.2.1 = some (.tup (p.1.map kV)) ∧ RelV p.2 q.2.2) kvs xs ∧
      ∃ o es ep, h.get? a = some o ∧ o.ExactDict ∧ o.data = .dict es ep ∧ es.toList = xs.map (entryOfKey (tupleKind (mixKind P w))) ∧ (xs.map (·.1)).Nodup
  | .set S n => h.SetOf (intKind P w) a S n
  | .ins C dx fs => H dx = some (.own a) ∧ fs.length ≤ 1000 ∧ dx ≠ a ∧ h.get? a = some (PySem.W.instObj C dx) ∧
      ∃ mA, h.Ns1 dx mA ∧ (∀ f, RelO (fs.lookup f) (mA f)) ∧ PySem.Within mA (fs.map (·.1))
  | .own _ => ∃ o, h.get? a = some o
  | .xd fs => ∃ mA, h.Ns1 a mA ∧ ∀ f, RelO (fs.lookup f) (mA f)
  | .rng lo hi => ∃ t u v, h.get? a = some { cls := .type "range", data := .fields #[.int lo t, .int hi u, .int 1 v] }
  | .frz o u => h.get? a = some o ∧ ObjOk H h a u
  | .tbl ps => h.get? a = some { cls := .none, data := .fields ps }
  | .met f x => h.get? a = some (PySem.W.methodObj (.ref f) (.ref x))
  | .ext φ => φ h ∧ (∃ o, h.get? a = some o) ∧ ∀ h1 h2 : Heap, φ h1 → (∀ o, h1.get? a = some o → h2.get? a = some o) → φ h2
/-- the abstract heap is held -/
def HOk (H : Hp) (h : Heap) : Prop := ∀ a o, H a = some o → ObjOk P w H h a o
end

section
variable {P : Program} {w : World} {H H' : Hp} {h h' : Heap} {a : Addr} {o : HO}
theorem ObjOk.lt (x : ObjOk P w H h a o) : a < h.objs.size := by
  cases o with
  | lst xs => obtain ⟨_, _, _, _, e⟩ := x; exact Heap.lt_size e
  | tup xs => obtain ⟨_, _, _, p⟩ := x; exact p.lt
  | dK kvs => obtain ⟨_, _, _, _, o, _, _, e, _⟩ := x; exact Heap.lt_size e
  | dT kvs => obtain ⟨_, _, _, _, o, _, _, e, _⟩ := x; exact Heap.lt_size e
  | set S n => obtain ⟨o, _, _, _, e, _⟩ := x; exact Heap.lt_size e
  | ins C dx fs => obtain ⟨_, _, _, e, _⟩ := x; exact Heap.lt_size e
  | own y => obtain ⟨_, e⟩ := x; exact Heap.lt_size e
  | xd fs => obtain ⟨_, ⟨_, _, _, e, _⟩, _⟩ := x; exact Heap.lt_size e
  | rng lo hi => obtain ⟨_, _, _, e⟩ := x; exact Heap.lt_size e
  | frz ob u => obtain ⟨e, _⟩ := x; exact Heap.lt_size e
  | tbl ps => exact Heap.lt_size (show h.get? a = some _ from x)
  | met f y => exact Heap.lt_size (show h.get? a = some _ from x)
  | ext φ => obtain ⟨_, ⟨_, e⟩, _⟩ := x; exact Heap.lt_size e
theorem Paired.mapP {α β : Type} {F G : α → β → Prop} : ∀ {l₁ : List α} {l₂ : List β}, Paired F l₁ l₂ → (∀ a b, F a b → G a b) → Paired G l₁ l₂
  | _, _, .nil, _ => .nil
  | _, _, .cons r t, f => .cons (f _ _ r) (Paired.mapP t f)
/-- what an object's description leans on: its own object, its own dict, the tuples -/
theorem ObjOk.stay (x : ObjOk P w H h a o) (k : ∀ b u, (b = a ∨ H b = some (.own a)) → h.get? b = some u → h'.get? b = some u)
    (ho : ∀ b, H b = some (.own a) → H' b = some (.own a)) (ht : ∀ b xs, H b = some (.tup xs) → H' b = some (.tup xs)) : ObjOk P w H' h' a o := by
  induction o with
  | lst xs => obtain ⟨z, its, n, r, e⟩ := x; exact ⟨z, its, n, r, k _ _ (.inl rfl) e⟩
  | tup xs => obtain ⟨z, its, r, ob, e, c⟩ := x; exact ⟨z, its, r, ob, k _ _ (.inl rfl) e, c⟩
  | dK kvs => obtain ⟨z, y, vs, r, ob, es, ep, e, c⟩ := x; exact ⟨z, y, vs, r, ob, es, ep, k _ _ (.inl rfl) e, c⟩
  | dT kvs =>
    obtain ⟨z, y, xs, r, ob, es, ep, e, c⟩ := x
    exact ⟨z, y, xs, Paired.mapP r fun p q z => ⟨z.1, ht _ _ z.2.1, z.2.2⟩, ob, es, ep, k _ _ (.inl rfl) e, c⟩
  | set S n => obtain ⟨ob, es, ep, t, e, c⟩ := x; exact ⟨ob, es, ep, t, k _ _ (.inl rfl) e, c⟩
  | ins C dx fs =>
    obtain ⟨d, z, ne, e, mA, ⟨od, es, ep, e2, c⟩, r⟩ := x
    exact ⟨ho _ d, z, ne, k _ _ (.inl rfl) e, mA, ⟨od, es, ep, k _ _ (.inr d) e2, c⟩, r⟩
  | own y => obtain ⟨ob, e⟩ := x; exact ⟨ob, k _ _ (.inl rfl) e⟩
  | xd fs => obtain ⟨mA, ⟨od, es, ep, e, c⟩, r⟩ := x; exact ⟨mA, ⟨od, es, ep, k _ _ (.inl rfl) e, c⟩, r⟩
  | rng lo hi => obtain ⟨t, u, v, e⟩ := x; exact ⟨t, u, v, k _ _ (.inl rfl) e⟩
  | frz ob u ih => obtain ⟨e, q⟩ := x; exact ⟨k _ _ (.inl rfl) e, ih q⟩
  | tbl ps =>
    have e : h.get? a = some { cls := .none, data := .fields ps } := x
    show h'.get? a = some { cls := .none, data := .fields ps }
    exact k a _ (.inl rfl) e
  | met f y =>
    have e : h.get? a = some (PySem.W.methodObj (.ref f) (.ref y)) := x
    show h'.get? a = some (PySem.W.methodObj (.ref f) (.ref y))
    exact k a _ (.inl rfl) e
  | ext φ => obtain ⟨p, ⟨o, e⟩, st⟩ := x; exact ⟨st _ _ p fun o q => k _ _ (.inl rfl) q, ⟨o, k _ _ (.inl rfl) e⟩, st⟩
theorem HOk.lt (x : HOk P w H h) (e : H a = some o) : a < h.objs.size := (x a o e).lt
theorem HOk.fresh (x : HOk P w H h) (e : h.objs.size ≤ a) : H a = none := by
  cases q : H a with
  | none => rfl
  | some u => exact absurd (Nat.lt_of_lt_of_le (x.lt q) e) (Nat.lt_irrefl _)
/-- every object of the heap is kept -/
theorem HOk.kept (x : HOk P w H h) (k : ∀ b u, h.get? b = some u → h'.get? b = some u) : HOk P w H h' := fun a o e =>
  (x a o e).stay (fun b u _ q => k b u q) (fun _ q => q) fun _ _ q => q
/-- a new object is laid and tracked -/
theorem HOk.laid (x : HOk P w H h) (k : ∀ b u, h.get? b = some u → h'.get? b = some u) (hp : h.objs.size ≤ a) (new : ObjOk P w (upd H a o) h' a o) : HOk P w (upd H a o) h' := fun b u e => by
  have hn := x.fresh hp
  by_cases hb : b = a
  · subst hb; rw [upd_same] at e; cases e; exact new
  · rw [upd_ne hb] at e
    exact (x b u e).stay (fun c v _ q => k c v q) (fun c q => by rw [upd_ne (ne_of_none q hn)]; exact q) fun c xs q => by rw [upd_ne (ne_of_none q hn)]; exact q
end

/-- what may be read as u: it is u, or a known u -/
def Rd (H : Hp) (a : Addr) (u : HO) : Prop := H a = some u ∨ ∃ o, H a = some (.frz o u)
theorem Rd.ok {P : Program} {w : World} {H : Hp} {h : Heap} {a : Addr} {u : HO} (r : Rd H a u) (x : HOk P w H h) : ObjOk P w H h a u := by
  rcases r with r | ⟨o, r⟩
  · exact x a u r
  · obtain ⟨_, q⟩ := x a _ r
    exact q
/-- what may be written -/
def Mut : Option HO → Prop
  | some (.lst _) => True
  | some (.dK _) => True
  | some (.dT _) => True
  | some (.set _ _) => True
  | some (.ins _ _ _) => True
  | some (.ext _) => True
  | _ => False
section
variable {P : Program} {w : World} {H : Hp} {h h' : Heap} {x e : Addr} {o' : HO}
/-- the object at e is changed: x itself, or the dict of the instance x -/
theorem HOk.write (ok : HOk P w H h) (mu : Mut (H x)) (he : e = x ∨ H e = some (.own x)) (k : ∀ b u, b ≠ e → h.get? b = some u → h'.get? b = some u) (heo : ∃ u, h'.get? e = some u)
    (new : ObjOk P w (upd H x o') h' x o') : HOk P w (upd H x o') h' := fun b u q => by
  have nown : ∀ c y, H c = some (.own y) → c ≠ x := fun c y r z => by subst z; rw [r] at mu; exact mu
  have ntup : ∀ c xs, H c = some (.tup xs) → c ≠ x := fun c xs r z => by subst z; rw [r] at mu; exact mu
  by_cases hb : b = x
  · subst hb; rw [upd_same] at q; cases q; exact new
  · rw [upd_ne hb] at q
    by_cases hbe : b = e
    · have q' : H b = some (.own x) := by
        rcases he with z | z
        · exact absurd (hbe.trans z) hb
        · rw [hbe]; exact z
      rw [q] at q'; cases q'
      obtain ⟨v, hv⟩ := heo
      exact ⟨v, by rw [hbe]; exact hv⟩
    · refine (ok b u q).stay (fun c v hc r => k c v ?_ r) (fun c r => by rw [upd_ne (nown c b r)]; exact r) fun c xs r => by rw [upd_ne (ntup c xs r)]; exact r
      rcases hc with rfl | hc
      · exact hbe
      · rintro rfl
        rcases he with z | z
        · exact nown c b hc z
        · rw [hc] at z; cases z; exact hb rfl
end

/-! ### kept unless tracked; of the frames at fs (the callers') the slots may change (an exception that passes writes there); of the records at ex (iterators) nothing is said -/
structure Un (fs ex : List Addr) (H H' : Hp) (h h' : Heap) : Prop where
  keep : ∀ b o, h.get? b = some o → H b = none → b ∉ fs → b ∉ ex → h'.get? b = some o
  slot : ∀ b o, h.get? b = some o → H b = none → b ∈ fs → b ∉ ex → ∃ sl, h'.get? b = some { o with slots := sl }
  free : ∀ b o, h.get? b = some o → H b = none → b ∉ ex → H' b = none
  there : ∀ b o, h.get? b = some o → b ∉ ex → ∃ o', h'.get? b = some o'
  tups : ∀ b xs, H b = some (.tup xs) → H' b = some (.tup xs)
  frzs : ∀ b o u, H b = some (.frz o u) → H' b = some (.frz o u)
  tbls : ∀ b ps, H b = some (.tbl ps) → ∃ more, H' b = some (.tbl (ps ++ more))
section
variable {fs fs' ex ex' : List Addr} {H H1 H2 : Hp} {h h1 h2 h' : Heap} {a x e : Addr} {o : HO}
theorem Un.any (u : Un fs ex H H1 h h1) {b : Addr} {ob : Obj} (q : h.get? b = some ob) (n : H b = none) (hx : b ∉ ex) : ∃ sl, h1.get? b = some { ob with slots := sl } := by
  by_cases hb : b ∈ fs
  · exact u.slot b ob q n hb hx
  · exact ⟨ob.slots, u.keep b ob q n hb hx⟩
theorem Un.trans (a : Un fs ex H H1 h h1) (b : Un fs ex H1 H2 h1 h2) : Un fs ex H H2 h h2 where
  keep := fun c ob q n hc hx => b.keep c ob (a.keep c ob q n hc hx) (a.free c ob q n hx) hc hx
  slot := fun c ob q n hc hx => by
    obtain ⟨sl, e1⟩ := a.slot c ob q n hc hx
    obtain ⟨sl', e2⟩ := b.slot c _ e1 (a.free c ob q n hx) hc hx
    exact ⟨sl', e2⟩
  free := fun c ob q n hx => by
    obtain ⟨o', e1⟩ := a.there c ob q hx
    exact b.free c o' e1 (a.free c ob q n hx) hx
  there := fun c ob q hx => by
    obtain ⟨o', e1⟩ := a.there c ob q hx
    exact b.there c o' e1 hx
  tups := fun c xs q => b.tups c xs (a.tups c xs q)
  frzs := fun c ob xs q => b.frzs c ob xs (a.frzs c ob xs q)
  tbls := fun c ps q => by
    obtain ⟨m1, e1⟩ := a.tbls c ps q
    obtain ⟨m2, e2⟩ := b.tbls c _ e1
    exact ⟨m1 ++ m2, by rw [e2, Array.append_assoc]⟩
theorem Un.kept (k : ∀ b u, h.get? b = some u → h'.get? b = some u) : Un fs ex H H h h' :=
  ⟨fun b ob q _ _ _ => k b ob q, fun b ob q _ _ _ => ⟨ob.slots, k b ob q⟩, fun _ _ _ n _ => n, fun b ob q _ => ⟨ob, k b ob q⟩, fun _ _ q => q, fun _ _ _ q => q, fun _ ps q => ⟨#[], by rw [q]; simp⟩⟩
theorem Un.refl : Un fs ex H H h h := Un.kept fun _ _ q => q
theorem Un.laid (k : ∀ b u, h.get? b = some u → h'.get? b = some u) (hp : h.objs.size ≤ a) (hn : H a = none) : Un fs ex H (upd H a o) h h' where
  keep := fun b u q _ _ _ => k b u q
  slot := fun b u q _ _ _ => ⟨u.slots, k b u q⟩
  free := fun b u q n _ => by rw [upd_ne (Nat.ne_of_lt (Nat.lt_of_lt_of_le (Heap.lt_size q) hp))]; exact n
  there := fun b u q _ => ⟨u, k b u q⟩
  tups := fun b xs q => by rw [upd_ne (ne_of_none q hn)]; exact q
  frzs := fun b u xs q => by rw [upd_ne (ne_of_none q hn)]; exact q
  tbls := fun b ps q => ⟨#[], by rw [upd_ne (ne_of_none q hn), q]; simp⟩
theorem Un.write (mu : Mut (H x)) (he : e = x ∨ H e = some (.own x)) (k : ∀ b u, b ≠ e → h.get? b = some u → h'.get? b = some u) (heo : ∃ u, h'.get? e = some u) : Un fs ex H (upd H x o) h h' := by
  have hx : ∀ b, H b = none → b ≠ x := fun b n z => by subst z; rw [n] at mu; exact mu
  have hb : ∀ b, H b = none → b ≠ e := fun b n z => by
    subst z
    rcases he with r | r
    · exact hx b n r
    · rw [n] at r; cases r
  have hm : ∀ b u, H b = some u → ¬ Mut (some u) → b ≠ x := fun b u q nm z => by subst z; rw [q] at mu; exact nm mu
  refine ⟨fun b u q n _ _ => k b u (hb b n) q, fun b u q n _ _ => ⟨u.slots, k b u (hb b n) q⟩, fun b u q n _ => by rw [upd_ne (hx b n)]; exact n, fun b u q _ => ?_,
    fun b xs q => by rw [upd_ne (hm b _ q fun z => z)]; exact q, fun b u xs q => by rw [upd_ne (hm b _ q fun z => z)]; exact q, fun b ps q => ⟨#[], by rw [upd_ne (hm b _ q fun z => z), q]; simp⟩⟩
  by_cases hbe : b = e
  · subst hbe; exact heo
  · exact ⟨u, k b u hbe q⟩
theorem Un.mono (u : Un fs ex H H1 h h1) (hs : ∀ b ∈ fs, b ∈ fs') (hx : ∀ b ∈ ex, b ∈ ex') : Un fs' ex' H H1 h h1 :=
  ⟨fun b ob q n hb he => u.keep b ob q n (fun z => hb (hs b z)) fun z => he (hx b z), fun _ _ q n _ he => u.any q n fun z => he (hx _ z), fun b ob q n he => u.free b ob q n fun z => he (hx b z), fun b ob q he => u.there b ob q fun z => he (hx b z), u.tups, u.frzs, u.tbls⟩
end

/-! ### the heap without what is tracked -/
def trk (h : Heap) (H : Hp) : List Addr := (List.range h.objs.size).filter fun a => (H a).isSome
def hidT (h : Heap) (H : Hp) : Heap := PySem.W.hideAll h (trk h H)
theorem hidT_size (h : Heap) (H : Hp) : (hidT h H).objs.size = h.objs.size := PySem.W.hideAll_size _ _
theorem hidT_get {h : Heap} {H : Hp} {b : Addr} {o : Obj} (e : h.get? b = some o) (n : H b = none) : (hidT h H).get? b = some o :=
  PySem.W.hideAll_get _ e fun hm => by
    have q : (H b).isSome = true := (List.mem_filter.mp hm).2
    rw [n] at q; simp at q
theorem of_hidT {h : Heap} {H : Hp} {b : Addr} {o : Obj} (e : (hidT h H).get? b = some o) : h.get? b = some o ∧ H b = none := by
  have e' : h.get? b = some o := PySem.W.of_hideAll (trk h H) e
  refine ⟨e', ?_⟩
  cases q : H b with
  | none => rfl
  | some x =>
    have hm : b ∈ trk h H := List.mem_filter.mpr ⟨List.mem_range.mpr (Heap.lt_size e'), by simp [q]⟩
    have z : (hidT h H).get? b = none := PySem.W.hideAll_none (trk h H) hm
    rw [z] at e; cases e

/-! ### OpenK's ledger, filled with every new object but one -/
end L2

namespace L2
open PySem PySem.Spec PyProof.Rows

/-- the module's facts, over the base: the heap at the law's entry without what is tracked there -/
structure Mod (K : PySem.W.Frag) (mg : Str → Option Value) (base : Heap) : Prop where
  kin : K.In base
  glob : base.Ns mainGlobals mg
  blt : ∃ mb, base.Ns builtinsNs mb ∧ ∀ x : Str, x ≠ "__name__" → mb x = bootBuiltins x
  nolimit : base.NoLimit

/-- the context: a def's body (or a comprehension's block) running. base: fixed through the whole law; s₀, H₀: the entry; outer: the frames whose slots others may change (a def's callers); stack: all frames that run;
   ex: iterators that were made ahead of the entry and are walked here (a comprehension's); fn: the names whose cells were made at the entry (a def: all; a comprehension's block: its own); calm: not within an except suite; pn: pins that every state bears; xe: what is wanted of an exception that leaves the code -/
structure Cx where
  prog : Program
  w : World
  K : PySem.W.Frag
  mg : Str → Option Value
  base : Heap
  A : Around
  N : List Str
  s₀ : Shared
  H₀ : Hp
  env : Env
  outer : List Env
  stack : List Env
  ex : List Addr
  fn : Str → Bool
  calm : Bool
  pn : List (Addr × Obj)
  xe : Value → Shared → Prop
/-- the callers' frames -/
def frs (l : List Env) : List Addr := l.filterMap (·.frame)
abbrev Cx.fs (X : Cx) : List Addr := frs X.outer

def Vis (sc : Scope) (x : Str) : Prop := sc.names.lookup x = some .local ∨ sc.names.lookup x = some .cell ∨ sc.names.lookup x = some .free
def Loc (sc : Scope) (x : Str) : Prop := sc.names.lookup x = some .local ∨ sc.names.lookup x = some .cell
def Look (env : Env) (h : Heap) (m : Str → Option Value) (x : Str) (u : Value) : Prop :=
  (env.kindOf x = some .local ∧ m x = some u) ∨ ((env.kindOf x = some .cell ∨ env.kindOf x = some .free) ∧ ∃ c, env.cells.lookup x = some c ∧ h.IsCell c (some u))

structure Cx.Ok (X : Cx) : Prop where
  mod : Mod X.K X.mg X.base
  kind : X.env.scope.kind = .function
  glob : X.env.globals = mainGlobals
  blt : X.env.builtins = builtinsNs
  above : X.s₀.heap.objs.size ≤ X.env.locals
  inj : ∀ x y c, X.env.cells.lookup x = some c → X.env.cells.lookup y = some c → x = y
  has : ∀ x, (X.env.kindOf x = some .cell ∨ X.env.kindOf x = some .free) → ∃ c, X.env.cells.lookup x = some c
  cab : ∀ x c, X.fn x = true → X.env.cells.lookup x = some c → X.s₀.heap.objs.size ≤ c
  hd : X.calm = true → X.A.handled = none
  frames : X.A.frames = some X.stack
  stk : X.stack = X.outer ∨ (X.stack = X.env :: X.outer ∧ X.env.frame = some X.env.locals)
  exf : ∀ b ∈ X.ex, b ≠ X.env.locals ∧ ∀ x c, X.env.cells.lookup x = some c → c ≠ b
  bs : ∀ b o, X.base.get? b = some o → X.s₀.heap.get? b = some o ∧ X.H₀ b = none
  bsz : X.base.objs.size ≤ X.s₀.heap.objs.size
  noex : ∀ b o, X.base.get? b = some o → b ∉ X.ex
  exfs : ∀ b ∈ X.ex, b ∉ X.fs
  funs : X.s₀.heap.FunFrames X.base X.outer
  frf : ∀ b ∈ X.fs, X.H₀ b = none

structure Inv (X : Cx) (pins : List (Addr × Obj)) (σ : List (Option V)) (H : Hp) (s : Shared) : Prop where
  ok : X.Ok
  os : s.os = X.s₀.os
  bare : AllBare s.gens
  base : Un X.fs X.ex X.H₀ H X.s₀.heap s.heap
  loc : ∃ m, s.heap.Ns X.env.locals m ∧ ∀ (i : Nat) (x : Str) (v : V), X.N[i]? = some x → σ[i]? = some (some v) → Vis X.env.scope x → ∃ u, RelV v u ∧ Look X.env s.heap m x u
  cell : ∀ x c, X.env.cells.lookup x = some c → ∃ v, s.heap.IsCell c v
  free : H X.env.locals = none
  freeC : ∀ x c, X.env.cells.lookup x = some c → H c = none
  pin : ∀ p ∈ X.pn ++ pins, s.heap.get? p.1 = some p.2 ∧ H p.1 = none ∧ p.1 ≠ X.env.locals ∧ p.1 ∉ X.fs ∧ ∀ v, p.2.data ≠ .cell v
  hok : HOk X.prog X.w H s.heap
  len : σ.length = X.N.length

section
variable {X : Cx} {pins : List (Addr × Obj)} {σ : List (Option V)} {H H' : Hp} {s : Shared} {h' : Heap}

theorem Cx.Ok.nofr (ok : X.Ok) {b : Addr} {o : Obj} (e : X.base.get? b = some o) : b ∉ X.fs := fun hb => by
  have := (ok.funs.mem hb).1
  rw [e] at this; cases this
theorem Inv.bs (I : Inv X pins σ H s) : ∀ b o, X.base.get? b = some o → s.heap.get? b = some o ∧ H b = none := fun b o e =>
  ⟨I.base.keep b o (I.ok.bs b o e).1 (I.ok.bs b o e).2 (I.ok.nofr e) (I.ok.noex b o e), I.base.free b o (I.ok.bs b o e).1 (I.ok.bs b o e).2 (I.ok.noex b o e)⟩
theorem Inv.bk (I : Inv X pins σ H s) : ∀ b o, X.base.get? b = some o → s.heap.get? b = some o := fun b o e => (I.bs b o e).1
theorem Inv.mod (I : Inv X pins σ H s) : Mod X.K X.mg X.base := I.ok.mod
theorem Inv.kIn (I : Inv X pins σ H s) : X.K.In s.heap := I.ok.mod.kin.keeps I.bk
theorem Inv.lt (I : Inv X pins σ H s) : X.env.locals < s.heap.objs.size := let ⟨_, hn, _⟩ := I.loc; hn.lt
theorem Inv.sz (I : Inv X pins σ H s) : X.s₀.heap.objs.size ≤ s.heap.objs.size := Nat.le_trans I.ok.above (Nat.le_of_lt I.lt)
theorem Inv.nofs (I : Inv X pins σ H s) {a : Addr} (h : s.heap.objs.size ≤ a) : a ∉ X.fs := fun hb => by
  obtain ⟨_, o, ho, _⟩ := I.ok.funs.mem hb
  exact absurd (Nat.lt_of_lt_of_le (Heap.lt_size ho) (Nat.le_trans I.sz h)) (Nat.lt_irrefl _)
theorem Inv.cne (I : Inv X pins σ H s) : ∀ x c, X.env.cells.lookup x = some c → c ≠ X.env.locals := fun x c e z => by
  obtain ⟨v, o, ho, hd⟩ := I.cell x c e
  obtain ⟨m, ⟨o', es, ep, ho', hd', _⟩, _⟩ := I.loc
  rw [z, ho'] at ho; cases ho; rw [hd'] at hd; cases hd
theorem Inv.funs (I : Inv X pins σ H s) : s.heap.FunFrames X.base X.outer := by
  have all : ∀ (l : List Env), (∀ b ∈ frs l, b ∈ X.fs) → X.s₀.heap.FunFrames X.base l → s.heap.FunFrames X.base l := by
    intro l
    induction l with
    | nil => intro _ _; trivial
    | cons env r ih =>
      intro hs hl
      obtain ⟨hk, ⟨L, o, hf, hn, ho, hd⟩, hr⟩ := hl
      have hL : L ∈ X.fs := hs L (by unfold frs; rw [List.filterMap_cons, hf]; exact List.mem_cons_self)
      obtain ⟨sl, e⟩ := I.base.slot L o ho (I.ok.frf L hL) hL fun z => I.ok.exfs L z hL
      exact ⟨hk, ⟨L, _, hf, hn, e, hd⟩, ih (fun b hb => hs b (by unfold frs; rw [List.filterMap_cons, hf]; exact List.mem_cons_of_mem _ hb)) hr⟩
  exact all X.outer (fun _ hb => hb) I.ok.funs

/-- the frames that run, for a call -/
theorem Inv.stack (I : Inv X pins σ H s) : s.heap.FunFrames X.base X.stack := by
  rcases I.ok.stk with e | ⟨e, hf⟩
  · rw [e]; exact I.funs
  · rw [e]
    obtain ⟨m, hn, _⟩ := I.loc
    refine .cons (by rw [I.ok.kind]; decide) hf hn ?_ I.funs
    exact Heap.get?_none_of_le (Nat.le_trans I.ok.bsz I.ok.above)
theorem Inv.stkSub (I : Inv X pins σ H s) : ∀ b ∈ frs X.stack, b ∈ X.env.locals :: X.fs := fun b hb => by
  rcases I.ok.stk with e | ⟨e, hf⟩
  · rw [e] at hb; exact List.mem_cons_of_mem _ hb
  · rw [e] at hb
    unfold frs at hb
    rw [List.filterMap_cons, hf] at hb
    exact hb
theorem Inv.stkFree (I : Inv X pins σ H s) : ∀ b ∈ frs X.stack, H b = none := fun b hb => by
  rcases List.mem_cons.mp (I.stkSub b hb) with e | hb
  · rw [e]; exact I.free
  · obtain ⟨_, o, ho, _⟩ := I.ok.funs.mem hb
    exact I.base.free b o ho (I.ok.frf b hb) fun z => I.ok.exfs b z hb

/-- THE STEP: the untracked objects but the frame and the records at ch are kept (the callers' frames up to slots), the frame's map is kept, the new abstract heap is held -/
theorem Inv.step {g' : Array GenState} {t' : Nat} {d' : Drawn} {ch : List Addr} (I : Inv X pins σ H s)
    (hch : ∀ b ∈ ch, (b ∈ X.ex ∨ X.s₀.heap.objs.size ≤ b) ∧ b ≠ X.env.locals ∧ (∀ x c, X.env.cells.lookup x = some c → c ≠ b) ∧ ∀ p ∈ X.pn ++ pins, p.1 ≠ b)
    (keep : ∀ b o, b ≠ X.env.locals → b ∉ X.fs → b ∉ ch → s.heap.get? b = some o → H b = none → h'.get? b = some o)
    (slot : ∀ b o, b ≠ X.env.locals → b ∈ X.fs → b ∉ ch → s.heap.get? b = some o → H b = none → ∃ sl, h'.get? b = some { o with slots := sl }) (free : ∀ b o, b ∉ ch → s.heap.get? b = some o → H b = none → H' b = none)
    (there : ∀ b o, b ∉ ch → s.heap.get? b = some o → ∃ o', h'.get? b = some o')
    (tups : ∀ b xs, H b = some (.tup xs) → H' b = some (.tup xs)) (frzs : ∀ b o u, H b = some (.frz o u) → H' b = some (.frz o u)) (tbls : ∀ b ps, H b = some (.tbl ps) → ∃ more, H' b = some (.tbl (ps ++ more)))
    (ns : ∀ m, s.heap.Ns X.env.locals m → h'.Ns X.env.locals m) (hok : HOk X.prog X.w H' h') (hg : AllBare g') :
    Inv X pins σ H' { s with heap := h', gens := g', drawn := d', toks := t' } := by
  have neL : ∀ b o, X.s₀.heap.get? b = some o → b ≠ X.env.locals := fun b o e => Nat.ne_of_lt (Nat.lt_of_lt_of_le (Heap.lt_size e) I.ok.above)
  have neC : ∀ b o, X.s₀.heap.get? b = some o → b ∉ X.ex → b ∉ ch := fun b o e hx hb => by
    rcases (hch b hb).1 with z | z
    · exact hx z
    · exact absurd (Nat.lt_of_lt_of_le (Heap.lt_size e) z) (Nat.lt_irrefl _)
  have cellK : ∀ x c, X.env.cells.lookup x = some c → ∀ v, s.heap.IsCell c v → h'.IsCell c v := fun x c e v ⟨o, ho, hd⟩ => by
    have nch : c ∉ ch := fun z => (hch c z).2.2.1 x c e rfl
    by_cases hc : c ∈ X.fs
    · obtain ⟨sl, q⟩ := slot c o (I.cne x c e) hc nch ho (I.freeC x c e)
      exact ⟨_, q, hd⟩
    · exact ⟨o, keep c o (I.cne x c e) hc nch ho (I.freeC x c e), hd⟩
  refine ⟨I.ok, I.os, hg, ⟨fun b o e n hb hx => ?_, fun b o e n hb hx => ?_, fun b o e n hx => ?_, fun b o e hx => ?_, fun b xs e => tups b xs (I.base.tups b xs e), fun b o xs e => frzs b o xs (I.base.frzs b o xs e), fun b ps e => ?_⟩, ?_, fun x c e => ?_, ?_, fun x c e => ?_, fun p hp => ?_, hok, I.len⟩
  · exact keep b o (neL b o e) hb (neC b o e hx) (I.base.keep b o e n hb hx) (I.base.free b o e n hx)
  · obtain ⟨sl, e1⟩ := I.base.slot b o e n hb hx
    obtain ⟨sl', e2⟩ := slot b _ (neL b o e) hb (neC b o e hx) e1 (I.base.free b o e n hx)
    exact ⟨sl', e2⟩
  · obtain ⟨o', e1⟩ := I.base.there b o e hx
    exact free b o' (neC b o e hx) e1 (I.base.free b o e n hx)
  · obtain ⟨o', e1⟩ := I.base.there b o e hx
    exact there b o' (neC b o e hx) e1
  · obtain ⟨m1, e1⟩ := I.base.tbls b ps e
    obtain ⟨m2, e2⟩ := tbls b _ e1
    exact ⟨m1 ++ m2, by rw [e2, Array.append_assoc]⟩
  · obtain ⟨m, hn, hl⟩ := I.loc
    refine ⟨m, ns m hn, fun i x v e1 e2 e3 => ?_⟩
    obtain ⟨u, r, l⟩ := hl i x v e1 e2 e3
    refine ⟨u, r, ?_⟩
    rcases l with l | ⟨k, c, e, z⟩
    · exact .inl l
    · exact .inr ⟨k, c, e, cellK x c e _ z⟩
  · obtain ⟨v, z⟩ := I.cell x c e
    exact ⟨v, cellK x c e v z⟩
  · obtain ⟨m, ⟨o, _, _, ho, _⟩, _⟩ := I.loc
    exact free _ o (fun z => (hch _ z).2.1 rfl) ho I.free
  · obtain ⟨v, o, ho, hd⟩ := I.cell x c e
    exact free c o (fun z => (hch c z).2.2.1 x c e rfl) ho (I.freeC x c e)
  · obtain ⟨e, n, ne, nf, d⟩ := I.pin p hp
    have nch : p.1 ∉ ch := fun z => (hch p.1 z).2.2.2 p hp rfl
    exact ⟨keep p.1 p.2 ne nf nch e n, free p.1 p.2 nch e n, ne, nf, d⟩
/-- .. where the frame's own object is kept too -/
theorem Inv.un {t' : Nat} (I : Inv X pins σ H s) (u : Un X.fs [] H H' s.heap h') (hok : HOk X.prog X.w H' h') : Inv X pins σ H' { s with heap := h', toks := t' } := by
  obtain ⟨m, ⟨o, es, ep, ho, r⟩, _⟩ := id I.loc
  obtain ⟨sl, hL⟩ := u.any ho I.free (by simp)
  exact I.step (g' := s.gens) (d' := s.drawn) (ch := []) (fun _ z => nomatch z) (fun b o _ hb _ e n => u.keep b o e n hb (by simp)) (fun b o _ hb _ e n => u.slot b o e n hb (by simp)) (fun b o _ e n => u.free b o e n (by simp)) (fun b o _ e => u.there b o e (by simp)) u.tups u.frzs u.tbls (fun m' hm => by
    obtain ⟨o', es', ep', ho', r'⟩ := hm
    rw [ho] at ho'; cases ho'
    exact ⟨_, es', ep', hL, r'⟩) hok I.bare
/-- behind a call (or a comprehension's block): the slots of this frame may have changed too, the records at ch may have turned -/
theorem Inv.call {g' : Array GenState} {t' : Nat} {d' : Drawn} {ch : List Addr} (I : Inv X pins σ H s) (u : Un (frs X.stack) ch H H' s.heap h') (hok : HOk X.prog X.w H' h') (hg : AllBare g')
    (hch : ∀ b ∈ ch, (b ∈ X.ex ∨ X.s₀.heap.objs.size ≤ b) ∧ b ≠ X.env.locals ∧ (∀ x c, X.env.cells.lookup x = some c → c ≠ b) ∧ ∀ p ∈ X.pn ++ pins, p.1 ≠ b) :
    Inv X pins σ H' { s with heap := h', gens := g', drawn := d', toks := t' } := by
  obtain ⟨m, ⟨o, es, ep, ho, r⟩, _⟩ := id I.loc
  obtain ⟨sl, hL⟩ := u.any ho I.free fun z => (hch _ z).2.1 rfl
  exact I.step (ch := ch) hch (fun b o hL hb hc e n => u.keep b o e n (fun z => (List.mem_cons.mp (I.stkSub b z)).elim hL hb) hc) (fun b o _ _ hc e n => u.any e n hc) (fun b o hc e n => u.free b o e n hc) (fun b o hc e => u.there b o e hc) u.tups u.frzs u.tbls (fun m' hm => by
    obtain ⟨o', es', ep', ho', r'⟩ := hm
    rw [ho] at ho'; cases ho'
    exact ⟨_, es', ep', hL, r'⟩) hok hg
/-- an untracked record of ours (an iterator) has turned -/
theorem Inv.turned {t' : Nat} {it : Addr} (I : Inv X pins σ H s) (k : ∀ b o, b ≠ it → s.heap.get? b = some o → h'.get? b = some o) (hn : H it = none) (hL : it ≠ X.env.locals)
    (h1 : it ∈ X.ex ∨ X.s₀.heap.objs.size ≤ it) (h2 : ∀ x c, X.env.cells.lookup x = some c → c ≠ it) (h3 : ∀ p ∈ X.pn ++ pins, p.1 ≠ it) : Inv X pins σ H { s with heap := h', toks := t' } := by
  have nit : ∀ b u, H b = some u → b ≠ it := fun b u e z => by rw [z, hn] at e; cases e
  refine I.step (g' := s.gens) (d' := s.drawn) (ch := [it]) (fun b hb => ?_) (fun b o _ _ hc e _ => k b o (fun z => hc (by simp [z])) e) (fun b o _ _ hc e _ => ⟨o.slots, k b o (fun z => hc (by simp [z])) e⟩) (fun _ _ _ _ n => n)
    (fun b o hc e => ⟨o, k b o (fun z => hc (by simp [z])) e⟩) (fun _ _ e => e) (fun _ _ _ e => e) (fun b ps e => ⟨#[], by rw [e]; simp⟩) (fun m hm => ?_) (fun b u e => ?_) I.bare
  · have e : b = it := by simpa using hb
    subst e
    exact ⟨h1, hL, h2, h3⟩
  · obtain ⟨o, es, ep, ho, r⟩ := hm
    exact ⟨o, es, ep, k _ o (Ne.symm hL) ho, r⟩
  · refine (I.hok b u e).stay (fun c v hc q => k c v ?_ q) (fun _ q => q) fun _ _ q => q
    rcases hc with z | z
    · rw [z]; exact nit b u e
    · exact nit c _ z
theorem Inv.tok (I : Inv X pins σ H s) (t : Nat) : Inv X pins σ H { s with toks := t } := I.un (h' := s.heap) (t' := t) Un.refl I.hok
/-- all objects kept -/
theorem Inv.kept {t' : Nat} (I : Inv X pins σ H s) (k : ∀ b u, s.heap.get? b = some u → h'.get? b = some u) : Inv X pins σ H { s with heap := h', toks := t' } := I.un (Un.kept k) (I.hok.kept k)
/-- a new object laid and tracked -/
theorem Inv.laid {a : Addr} {o : HO} {t' : Nat} (I : Inv X pins σ H s) (k : ∀ b u, s.heap.get? b = some u → h'.get? b = some u) (hp : s.heap.objs.size ≤ a) (new : ObjOk X.prog X.w (upd H a o) h' a o) :
    Inv X pins σ (upd H a o) { s with heap := h', toks := t' } := I.un (Un.laid k hp (I.hok.fresh hp)) (I.hok.laid k hp new)
/-- an object written -/
theorem Inv.write {x e : Addr} {o : HO} {t' : Nat} (I : Inv X pins σ H s) (mu : Mut (H x)) (he : e = x ∨ H e = some (.own x)) (k : ∀ b u, b ≠ e → s.heap.get? b = some u → h'.get? b = some u) (heo : ∃ u, h'.get? e = some u)
    (new : ObjOk X.prog X.w (upd H x o) h' x o) : Inv X pins σ (upd H x o) { s with heap := h', toks := t' } := I.un (Un.write mu he k heo) (I.hok.write mu he k heo new)
theorem Inv.pins_of {pins' : List (Addr × Obj)} (I : Inv X pins σ H s) (h : ∀ p ∈ pins', s.heap.get? p.1 = some p.2 ∧ H p.1 = none ∧ p.1 ≠ X.env.locals ∧ p.1 ∉ X.fs ∧ ∀ v, p.2.data ≠ .cell v) : Inv X pins' σ H s :=
  ⟨I.ok, I.os, I.bare, I.base, I.loc, I.cell, I.free, I.freeC, fun p hp => (List.mem_append.mp hp).elim (fun z => I.pin p (List.mem_append_left _ z)) (h p), I.hok, I.len⟩

theorem nodup_ix {N : List Str} (hN : N.Nodup) {i j : Nat} {x : Str} (a : N[i]? = some x) (b : N[j]? = some x) : i = j := by
  obtain ⟨h1, e1⟩ := List.getElem?_eq_some_iff.mp a
  obtain ⟨h2, e2⟩ := List.getElem?_eq_some_iff.mp b
  exact (List.getElem_inj hN).mp (e1.trans e2.symm)

/-- a name is stored; what changed -/
theorem store_ok2 {M : Model} {A : Around} {E : Value → Shared → Prop} {i : Nat} {x : Str} {v : V} {u : Value} {Q : Unit → Shared → Prop} (I : Inv X pins σ H s) (hN : X.N.Nodup) (hi : X.N[i]? = some x) (hx : Loc X.env.scope x) (r : RelV v u)
    (h : ∀ s', Inv X pins (σ.set i (some v)) H s' → (∃ a, Heap.SameBut a s.heap s'.heap ∧ (a = X.env.locals ∨ X.env.cells.lookup x = some a)) → Q () s') (hf : X.fn x = true ∨ X.env.scope.names.lookup x = some .local := by first | exact .inl rfl | exact .inr rfl | assumption) : wpAny M A (storeName X.env x u) Q E s := by
  obtain ⟨m, hn, hl⟩ := id I.loc
  have hcls : (X.env.scope.kind == .class || (X.env.scope.kind == .module && X.env.locals != X.env.globals)) = false := by rw [I.ok.kind]; rfl
  have hiσ : i < σ.length := by rw [I.len]; exact (List.getElem?_eq_some_iff.mp hi).1
  have cne := I.cne
  have tracked : ∀ {a : Addr} {h' : Heap}, (∃ o, s.heap.get? a = some o ∧ H a = none) → Heap.SameBut a s.heap h' → HOk X.prog X.w H h' := fun {a h'} ha hs b ob e => by
    obtain ⟨_, _, hfree⟩ := ha
    refine (I.hok b ob e).stay (fun c w' hc q => (hs.2 c ?_).trans q) (fun _ q => q) fun _ _ q => q
    rintro rfl
    rcases hc with rfl | hc
    · rw [hfree] at e; cases e
    · rw [hfree] at hc; cases hc
  rcases hx with hk | hk
  · refine wpAny_storeName_local hk hn (fun h' hn' hs => ?_) hcls
    obtain ⟨oL, _, _, hoL, _⟩ := id hn
    refine h _ ⟨I.ok, I.os, I.bare, ⟨fun b o e n hb hx => ?_, fun b o e n hb hx => ?_, I.base.free, fun b o e hx => ?_, I.base.tups, I.base.frzs, I.base.tbls⟩, ⟨_, hn', fun j y v' e1 e2 e3 => ?_⟩, fun y c e => ?_, I.free, I.freeC, fun p hp => ?_, tracked ⟨oL, hoL, I.free⟩ hs, by simpa using I.len⟩ ⟨_, hs, .inl rfl⟩
    · exact (hs.2 b (Nat.ne_of_lt (Nat.lt_of_lt_of_le (Heap.lt_size e) I.ok.above))).trans (I.base.keep b o e n hb hx)
    · obtain ⟨sl, e1⟩ := I.base.slot b o e n hb hx
      exact ⟨sl, (hs.2 b (Nat.ne_of_lt (Nat.lt_of_lt_of_le (Heap.lt_size e) I.ok.above))).trans e1⟩
    · obtain ⟨o', e1⟩ := I.base.there b o e hx
      exact ⟨o', (hs.2 b (Nat.ne_of_lt (Nat.lt_of_lt_of_le (Heap.lt_size e) I.ok.above))).trans e1⟩
    · by_cases hj : j = i
      · subst hj
        rw [hi] at e1; cases e1
        rw [List.getElem?_set_self hiσ] at e2
        cases e2
        exact ⟨u, r, .inl ⟨hk, by simp⟩⟩
      · rw [List.getElem?_set_ne (Ne.symm hj)] at e2
        obtain ⟨u', r', q⟩ := hl j y v' e1 e2 e3
        refine ⟨u', r', ?_⟩
        rcases q with ⟨k, e⟩ | ⟨k, c, e, z⟩
        · refine .inl ⟨k, ?_⟩
          have : y ≠ x := fun e => hj (nodup_ix hN e1 (e ▸ hi))
          simp [this, e]
        · exact .inr ⟨k, c, e, z.sameBut hs (cne y c e)⟩
    · obtain ⟨w', z⟩ := I.cell y c e
      exact ⟨w', z.sameBut hs (cne y c e)⟩
    · obtain ⟨e, n, ne, nf, d⟩ := I.pin p hp
      exact ⟨(hs.2 p.1 ne).trans e, n, ne, nf, d⟩
  · have hfn : X.fn x = true := by
      rcases hf with z | z
      · exact z
      · rw [z] at hk; cases hk
    obtain ⟨c, hc⟩ := I.ok.has x (.inl hk)
    obtain ⟨w', z⟩ := I.cell x c hc
    refine wpAny_storeName_cell I.ok.kind hk hc z (fun h' hc' hs => ?_)
    obtain ⟨oc, hoc, hocd⟩ := id z
    refine h { s with heap := h' } ⟨I.ok, I.os, I.bare, ⟨fun b o e n hb hx => ?_, fun b o e n hb hx => ?_, I.base.free, fun b o e hx => ?_, I.base.tups, I.base.frzs, I.base.tbls⟩, ⟨m, hn.sameBut hs (Ne.symm (cne x c hc)), fun j y v' e1 e2 e3 => ?_⟩, fun y c' e => ?_, I.free, I.freeC, fun p hp => ?_, tracked ⟨oc, hoc, I.freeC x c hc⟩ hs, by simpa using I.len⟩ ⟨c, hs, .inr hc⟩
    · exact (hs.2 b (Nat.ne_of_lt (Nat.lt_of_lt_of_le (Heap.lt_size e) (I.ok.cab x c hfn hc)))).trans (I.base.keep b o e n hb hx)
    · obtain ⟨sl, e1⟩ := I.base.slot b o e n hb hx
      exact ⟨sl, (hs.2 b (Nat.ne_of_lt (Nat.lt_of_lt_of_le (Heap.lt_size e) (I.ok.cab x c hfn hc)))).trans e1⟩
    · obtain ⟨o', e1⟩ := I.base.there b o e hx
      exact ⟨o', (hs.2 b (Nat.ne_of_lt (Nat.lt_of_lt_of_le (Heap.lt_size e) (I.ok.cab x c hfn hc)))).trans e1⟩
    · by_cases hj : j = i
      · subst hj
        rw [hi] at e1; cases e1
        rw [List.getElem?_set_self hiσ] at e2
        cases e2
        exact ⟨u, r, .inr ⟨.inl hk, c, hc, hc'⟩⟩
      · rw [List.getElem?_set_ne (Ne.symm hj)] at e2
        obtain ⟨u', r', q⟩ := hl j y v' e1 e2 e3
        refine ⟨u', r', ?_⟩
        rcases q with q | ⟨k, c', e, z'⟩
        · exact .inl q
        · refine .inr ⟨k, c', e, z'.sameBut hs ?_⟩
          rintro rfl
          exact hj (nodup_ix hN e1 (I.ok.inj _ _ _ e hc ▸ hi))
    · by_cases hcc : c' = c
      · subst hcc; exact ⟨_, hc'⟩
      · obtain ⟨w2, z2⟩ := I.cell y c' e
        exact ⟨w2, z2.sameBut hs hcc⟩
    · obtain ⟨e, n, ne, nf, d⟩ := I.pin p hp
      refine ⟨(hs.2 p.1 ?_).trans e, n, ne, nf, d⟩
      intro q
      rw [q, hoc] at e
      have q' : oc = p.2 := Option.some.inj e
      exact d w' (by rw [← q']; exact hocd)
theorem store_ok {M : Model} {A : Around} {E : Value → Shared → Prop} {i : Nat} {x : Str} {v : V} {u : Value} {Q : Unit → Shared → Prop} (I : Inv X pins σ H s) (hN : X.N.Nodup) (hi : X.N[i]? = some x) (hx : Loc X.env.scope x) (r : RelV v u)
    (h : ∀ s', Inv X pins (σ.set i (some v)) H s' → Q () s') (hf : X.fn x = true ∨ X.env.scope.names.lookup x = some .local := by first | exact .inl rfl | exact .inr rfl | assumption) : wpAny M A (storeName X.env x u) Q E s :=
  store_ok2 I hN hi hx r (fun s' I' _ => h s' I') hf
/-- behind a call or a block, the state as it is -/
theorem Inv.call' {s' : Shared} {ch : List Addr} (I : Inv X pins σ H s) (ho : s'.os = s.os) (u : Un (frs X.stack) ch H H' s.heap s'.heap) (hok : HOk X.prog X.w H' s'.heap) (hg : AllBare s'.gens)
    (hch : ∀ b ∈ ch, (b ∈ X.ex ∨ X.s₀.heap.objs.size ≤ b) ∧ b ≠ X.env.locals ∧ (∀ x c, X.env.cells.lookup x = some c → c ≠ b) ∧ ∀ p ∈ X.pn ++ pins, p.1 ≠ b) : Inv X pins σ H' s' := by
  obtain ⟨h', g', d', t', o'⟩ := s'
  have e : o' = s.os := ho
  subst e
  exact I.call (g' := g') (t' := t') (d' := d') u hok hg hch
end

/-! ### the judgements -/
/-- an exception: its class, its own dict's address (where it has one), the abstract heap behind it -/
abbrev XK := Value → Option Addr → Hp → Prop
abbrev St := List (Option V)
abbrev VK := V → Hp → Prop
/-- an expression's reading; a test's; an argument list's -/
abbrev TE := St → Hp → VK → Prop
abbrev TT := St → Hp → (Bool → Hp → Prop) → Prop
abbrev TA := St → Hp → (List V → Hp → Prop) → Prop
/-- what is wanted behind a statement -/
structure Ends where
  nx : St → Hp → Prop
  rt : VK
  bk : St → Hp → Prop := fun _ _ => False
  ct : St → Hp → Prop := fun _ _ => False
abbrev TS := Ends → St → Hp → Prop

def EP (X : Cx) (pins : List (Addr × Obj)) (σ : St) (Q : VK) (u : Value) (s' : Shared) : Prop := ∃ v H', Inv X pins σ H' s' ∧ RelV v u ∧ Q v H'
def TP (X : Cx) (pins : List (Addr × Obj)) (σ : St) (Q : Bool → Hp → Prop) (b : Bool) (s' : Shared) : Prop := ∃ H', Inv X pins σ H' s' ∧ Q b H'
def AP (X : Cx) (pins : List (Addr × Obj)) (σ : St) (Q : List V → Hp → Prop) (us : List Value) (s' : Shared) : Prop := ∃ vs H', Inv X pins σ H' s' ∧ Vals vs us ∧ Q vs H'
def SP (X : Cx) (pins : List (Addr × Obj)) (D : Ends) (f : Flow) (s' : Shared) : Prop :=
  match f with
  | .next => ∃ σ' H', Inv X pins σ' H' s' ∧ D.nx σ' H'
  | .brk => ∃ σ' H', Inv X pins σ' H' s' ∧ D.bk σ' H'
  | .cont => ∃ σ' H', Inv X pins σ' H' s' ∧ D.ct σ' H'
  | .ret u => ∃ v σ' H', Inv X pins σ' H' s' ∧ RelV v u ∧ D.rt v H'

def PE (X : Cx) (e : Expr) (t : TE) : Prop :=
  ∀ (pins : List (Addr × Obj)) (s : Shared) (σ : St) (H : Hp) (Q : VK), Inv X pins σ H s → t σ H Q → wpAny (model X.prog X.w) X.A (eval e X.env) (EP X pins σ Q) X.xe s
def PT (X : Cx) (e : Expr) (t : TT) : Prop :=
  ∀ (pins : List (Addr × Obj)) (s : Shared) (σ : St) (H : Hp) (Q : Bool → Hp → Prop), Inv X pins σ H s → t σ H Q → wpAny (model X.prog X.w) X.A (isTrue e X.env (eval e X.env)) (TP X pins σ Q) X.xe s
/-- a test whatever its 'whole' is (and, or) -/
def PW (X : Cx) (e : Expr) (t : TT) : Prop :=
  ∀ (whole : Sem Value) (pins : List (Addr × Obj)) (s : Shared) (σ : St) (H : Hp) (Q : Bool → Hp → Prop), Inv X pins σ H s → t σ H Q → wpAny (model X.prog X.w) X.A (isTrue e X.env whole) (TP X pins σ Q) X.xe s
theorem PW.pt {X : Cx} {e : Expr} {t : TT} (h : PW X e t) : PT X e t := h _
/-- an argument list (no star), from the left -/
def PA (X : Cx) (es : List Expr) (t : TA) : Prop :=
  ∀ (pos : Pos) (pins : List (Addr × Obj)) (s : Shared) (σ : St) (H : Hp) (Q : List V → Hp → Prop), Inv X pins σ H s → t σ H Q → wpAny (model X.prog X.w) X.A (spliced (backTo pos (starEach es X.env))) (AP X pins σ Q) X.xe s
def PS (X : Cx) (st : Stmt) (t : TS) : Prop :=
  ∀ (pins : List (Addr × Obj)) (s : Shared) (σ : St) (H : Hp) (D : Ends), Inv X pins σ H s → t D σ H → wpAny (model X.prog X.w) X.A (exec st X.env) (SP X pins D) X.xe s
def PSs (X : Cx) (st : List Stmt) (t : TS) : Prop :=
  ∀ (pins : List (Addr × Obj)) (s : Shared) (σ : St) (H : Hp) (D : Ends), Inv X pins σ H s → t D σ H → wpAny (model X.prog X.w) X.A (execs st X.env) (SP X pins D) X.xe s
/-- weaken the end -/
theorem thn {α : Type} {t : Sem α} {Q Q' : α → Shared → Prop} {M : Model} {A : Around} {E : Value → Shared → Prop} {s : Shared} (h : wpAny M A t Q E s) (hQ : ∀ a s, Q a s → Q' a s) : wpAny M A t Q' E s := wpAny_mono h hQ fun _ _ x => x
end L2

namespace L2
open PySem PySem.Spec PyProof.Rows
section
variable {X : Cx}

/-- two expressions in a row -/
theorem bin {a b : Expr} {ta tb : TE} (ha : PE X a ta) (hb : PE X b tb) {pins : List (Addr × Obj)} {s : Shared} {σ : St} {H : Hp} {R : V → V → Hp → Prop} (I : Inv X pins σ H s) (h : ta σ H fun x H1 => tb σ H1 fun y H2 => R x y H2)
    {α : Type} {Q : α → Shared → Prop} {f : Value → Value → Sem α}
    (hf : ∀ v u s2 x y H2, Inv X pins σ H2 s2 → RelV x v → RelV y u → R x y H2 → wpAny (model X.prog X.w) X.A (f v u) Q X.xe s2) :
    wpAny (model X.prog X.w) X.A (eval a X.env) (fun v s₁ => wpAny (model X.prog X.w) X.A (eval b X.env) (fun u s₂ => wpAny (model X.prog X.w) X.A (f v u) Q X.xe s₂) X.xe s₁) X.xe s := by
  refine thn (ha pins s σ H _ I h) fun v s1 ⟨x, H1, I1, r1, q1⟩ => ?_
  refine thn (hb pins s1 σ H1 _ I1 q1) fun u s2 ⟨y, H2, I2, r2, q2⟩ => ?_
  exact hf v u s2 x y H2 I2 r1 r2 q2

/-! ### names and constants -/
def tVar (i : Nat) : TE := fun σ H Q => ∃ v, σ[i]? = some (some v) ∧ Q v H
def tC (v : V) : TE := fun _ H Q => Q v H
theorem pe_var {i : Nat} {x : Str} {pos : Pos} (hN : X.N[i]? = some x) (hv : Vis X.env.scope x) (hd : (x == ("__debug__" : Str)) = false := by decide) (hcd : (x == ("__classdict__" : Str)) = false := by decide) : PE X (.Name x pos) (tVar i) := by
  intro pins s σ H Q I h
  obtain ⟨v, e, h⟩ := h
  obtain ⟨m, hn, hl⟩ := I.loc
  obtain ⟨u, r, l⟩ := hl i x v hN e hv
  have fin : EP X pins σ Q u s := ⟨v, H, I, r, h⟩
  rcases l with ⟨hk, hm⟩ | ⟨hk, c, hc, hcell⟩
  · exact wpAny_Name (wpAny_loadName_local I.ok.kind hk hn hm fin) hd
  · rcases hk with hk | hk
    · exact wpAny_Name (wpAny_loadName_cell I.ok.kind hk hc hcell fin) hd
    · exact wpAny_Name (wpAny_loadName_free I.ok.kind hk hc hcell fin hcd) hd
theorem pe_int {i j pos} : PE X (.Constant (.int i) j pos) (tC (.int i)) := fun _ _ _ H _ I h => wpAny_Constant_int ⟨.int i, H, I.tok _, ⟨_, rfl⟩, h⟩
theorem pe_bl {b j pos} : PE X (.Constant (.bool b) j pos) (tC (.bl b)) := fun _ _ _ H _ I h => Constant_bool ⟨.bl b, H, I, rfl, h⟩
theorem pe_non {j pos} : PE X (.Constant .none j pos) (tC .non) := fun _ _ _ H _ I h => Constant_none ⟨.non, H, I, rfl, h⟩
theorem pe_str {x j pos} : PE X (.Constant (.str x) j pos) (tC (.str x)) := fun _ _ _ H _ I h => Calls.Constant_str ⟨.str x, H, I.tok _, ⟨_, rfl⟩, h⟩

/-- a global name of the def -/
def Gl (X : Cx) (x : Str) : Prop := X.env.kindOf x = some .globalImplicit
theorem ld_glob {E : Value → Shared → Prop} {pins : List (Addr × Obj)} {s : Shared} {σ : St} {H : Hp} {x : Str} {u : Value} {pos : Pos} {Q : Value → Shared → Prop} (I : Inv X pins σ H s) (hg : Gl X x) (hm : X.mg x = some u) (h : Q u s)
    (hd : (x == ("__debug__" : Str)) = false := by decide) : wpAny (model X.prog X.w) X.A (eval (.Name x pos) X.env) Q E s :=
  Calls.Name_function_global I.ok.kind hg (Calls.loadGlobal_global (by rw [I.ok.glob]; exact I.mod.glob.keeps I.bk) hm h) hd
theorem ld_blt {E : Value → Shared → Prop} {pins : List (Addr × Obj)} {s : Shared} {σ : St} {H : Hp} {x : Str} {u : Value} {pos : Pos} {Q : Value → Shared → Prop} (I : Inv X pins σ H s) (hg : Gl X x) (hm : X.mg x = none) (hv : bootBuiltins x = some u) (h : Q u s)
    (hn : x ≠ "__name__" := by decide) (hd : (x == ("__debug__" : Str)) = false := by decide) : wpAny (model X.prog X.w) X.A (eval (.Name x pos) X.env) Q E s := by
  obtain ⟨mb, h1, h2⟩ := I.mod.blt
  exact Calls.Name_function_global I.ok.kind hg (Calls.loadGlobal_builtin (by rw [I.ok.glob]; exact I.mod.glob.keeps I.bk) hm (by rw [I.ok.blt]; exact h1.keeps I.bk) ((h2 x hn).trans hv) h) hd
/-- a module's constant, a class, a function, as a value -/
theorem pe_glob {x : Str} {v : V} {u : Value} {pos : Pos} (hg : Gl X x) (hm : X.mg x = some u) (r : RelV v u) (hd : (x == ("__debug__" : Str)) = false := by decide) : PE X (.Name x pos) (tC v) :=
  fun _ _ _ H _ I h => ld_glob I hg hm ⟨v, H, I, r, h⟩ hd
theorem pe_bltn {x : Str} {v : V} {u : Value} {pos : Pos} (hg : Gl X x) (hm : X.mg x = none) (hv : bootBuiltins x = some u) (r : RelV v u) (hn : x ≠ "__name__" := by decide) (hd : (x == ("__debug__" : Str)) = false := by decide) : PE X (.Name x pos) (tC v) :=
  fun _ _ _ H _ I h => ld_blt I hg hm hv ⟨v, H, I, r, h⟩ hn hd

/-! ### arithmetic -/
variable {a b : Expr} {ta tb : TE} {pos : Pos}

/-! ### comparisons -/
def PC (X : Cx) (op : CmpOp) (a b : Expr) (t : TE) : Prop :=
  ∀ (pins : List (Addr × Obj)) (s : Shared) (σ : St) (H : Hp) (Q : VK), Inv X pins σ H s → t σ H Q →
    wpAny (model X.prog X.w) X.A (eval a X.env) (fun v s₁ => wpAny (model X.prog X.w) X.A (eval b X.env) (fun u s₂ => wpAny (model X.prog X.w) X.A (compareOp op v u) (EP X pins σ Q) X.xe s₂) X.xe s₁) X.xe s
/-- a comparison as a value, as a test -/
def tB (t : TE) : TT := fun σ H Q => t σ H fun x H1 => ∃ c, x = .bl c ∧ Q c H1
theorem pt_cmp {op : CmpOp} {t : TE} (h : PC X op a b t) (h1 : behindInMarks op b = false := by first | exact nobehind _ (by decide) (by decide) | rfl) : PT X (.Compare a [op] [b] pos) (tB t) := by
  intro pins s σ H Q I hw
  refine wpAny_isTrue_Compare1 (thn (h pins s σ H _ I hw) fun v s1 h1 => thn h1 fun u s2 h2 => thn h2 fun c s3 ⟨x, H1, I1, r1, q1⟩ => ?_) h1
  obtain ⟨d, rfl, q⟩ := q1
  cases r1
  exact wpAny_truthy_bool ⟨H1, I1, q⟩

/-! ### and, or, not -/
variable {tA tB' : TT} {rest : List Expr}
def tAnd (t u : TT) : TT := fun σ H Q => t σ H fun c H1 => if c = true then u σ H1 Q else Q false H1
def tOr (t u : TT) : TT := fun σ H Q => t σ H fun c H1 => if c = true then Q true H1 else u σ H1 Q
def tNot (t : TT) : TT := fun σ H Q => t σ H fun c H1 => Q (!c) H1
theorem pw_and1 (ha : PT X a tA) : PW X (.BoolOp .And [a] pos) tA := by
  intro wh pins s σ H Q I h
  refine isTrue_and (thn (ha pins s σ H Q I h) fun c s1 e => ?_)
  cases c with
  | true => exact isTrue_and_nil e
  | false => exact e
theorem pw_or1 (ha : PT X a tA) : PW X (.BoolOp .Or [a] pos) tA := by
  intro wh pins s σ H Q I h
  refine isTrue_or (thn (ha pins s σ H Q I h) fun c s1 e => ?_)
  cases c with
  | false => exact isTrue_or_nil e
  | true => exact e
theorem pw_and (ha : PT X a tA) (hb : PW X (.BoolOp .And (b :: rest) pos) tB') : PW X (.BoolOp .And (a :: b :: rest) pos) (tAnd tA tB') := by
  intro wh pins s σ H Q I h
  refine isTrue_and (thn (ha pins s σ H _ I h) fun c s1 ⟨H1, I1, q1⟩ => ?_)
  cases c with
  | true => exact hb wh pins s1 σ H1 Q I1 q1
  | false => exact ⟨H1, I1, q1⟩
theorem pw_or (ha : PT X a tA) (hb : PW X (.BoolOp .Or (b :: rest) pos) tB') : PW X (.BoolOp .Or (a :: b :: rest) pos) (tOr tA tB') := by
  intro wh pins s σ H Q I h
  refine isTrue_or (thn (ha pins s σ H _ I h) fun c s1 ⟨H1, I1, q1⟩ => ?_)
  cases c with
  | true => exact ⟨H1, I1, q1⟩
  | false => exact hb wh pins s1 σ H1 Q I1 q1
theorem pt_not (ha : PT X a tA) : PT X (.UnaryOp .Not a pos) (tNot tA) := by
  intro pins s σ H Q I h
  exact isTrue_not (ha pins s σ H (fun c H1 => Q (!c) H1) I h)
/-- .. as values (bools) -/
def tAndV (ta tb : TE) : TE := fun σ H Q => ta σ H fun x H1 => ∃ c, x = .bl c ∧ if c = true then tb σ H1 Q else Q (.bl false) H1
theorem pe_one {op} {t : TE} (h : PE X a t) : PE X (.BoolOp op [a] pos) t := fun pins s σ H Q I hw => BoolOp_one (h pins s σ H Q I hw)
theorem pe_and (ha : PE X a ta) (hb : PE X (.BoolOp .And (b :: rest) pos) tb) : PE X (.BoolOp .And (a :: b :: rest) pos) (tAndV ta tb) := by
  intro pins s σ H Q I h
  refine BoolOp_and (thn (ha pins s σ H _ I h) fun v s1 ⟨x, H1, I1, r1, q1⟩ => ?_)
  obtain ⟨c, rfl, q1⟩ := q1
  cases r1
  refine wpAny_truthy_bool ?_
  cases c with
  | true => exact hb pins s1 σ H1 Q I1 q1
  | false => exact ⟨.bl false, H1, I1, rfl, q1⟩
/-- a if t else b -/
def tIf (t : TT) (ta tb : TE) : TE := fun σ H Q => t σ H fun c H1 => if c = true then ta σ H1 Q else tb σ H1 Q
theorem pe_ifExp {c : Expr} (hc : PT X c tA) (ha : PE X a ta) (hb : PE X b tb) : PE X (.IfExp c a b pos) (tIf tA ta tb) := by
  intro pins s σ H Q I h
  refine wpAny_IfExp (thn (hc pins s σ H _ I h) fun d s1 ⟨H1, I1, q1⟩ => ?_)
  cases d with
  | true => exact ha pins s1 σ H1 Q I1 q1
  | false => exact hb pins s1 σ H1 Q I1 q1
end
end L2

namespace L2
open PySem PySem.Spec PyProof.Rows

/-! ### a list, a tuple that is read: tracked, frozen, or an object of the module -/
def SqL (K : PySem.W.Frag) (H : Hp) (a : Addr) (xs : List V) : Prop :=
  Rd H a (.lst xs) ∨
    ∃ (o : Obj) (its : Array Value) (n : Nat), K.lookup a = some o ∧ o.cls = .type "list" ∧ o.dict = none ∧ o.data = .seq its n ∧ its.size ≤ sizeLine ∧ Vals xs its.toList
def SqT (K : PySem.W.Frag) (H : Hp) (a : Addr) (xs : List V) : Prop :=
  Rd H a (.tup xs) ∨
    ∃ (o : Obj) (its : Array Value) (n : Nat), K.lookup a = some o ∧ o.cls = .type "tuple" ∧ o.data = .seq its n ∧ its.size ≤ sizeLine ∧ Vals xs its.toList
def absV : Value → Option V
  | .none => some .non
  | .bool b => some (.bl b)
  | .int i _ => some (.int i)
  | .str x _ => some (.str x)
  | .bytes b _ => some (.byt b)
  | .float b _ => some (.flt b)
  | .ref a => some (.ref a)
  | .type n => some (.ty n)
  | _ => none
theorem RelV.abs {x : V} {u : Value} (r : RelV x u) : absV u = some x := by
  cases x with
  | non => cases r; rfl
  | bl _ => cases r; rfl
  | int _ => obtain ⟨t, rfl⟩ := r; rfl
  | str _ => obtain ⟨t, rfl⟩ := r; rfl
  | byt _ => obtain ⟨t, rfl⟩ := r; rfl
  | flt _ => obtain ⟨t, rfl⟩ := r; rfl
  | ref _ => cases r; rfl
  | ty _ => cases r; rfl
theorem RelV.inj {x y : V} {u : Value} (r : RelV x u) (q : RelV y u) : x = y := Option.some.inj (r.abs.symm.trans q.abs)
theorem Vals.inj : ∀ {xs ys : List V} {us : List Value}, Vals xs us → Vals ys us → xs = ys
  | _, _, _, .nil, .nil => rfl
  | _, _, _, .cons r t, .cons r' t' => by rw [r.inj r', Vals.inj t t']
section
variable {X : Cx} {pins : List (Addr × Obj)} {σ : St} {H : Hp} {s : Shared} {a : Addr} {xs ys : List V}
theorem SqL.of {K : PySem.W.Frag} (h : H a = some (.lst xs)) : SqL K H a xs := .inl (.inl h)
theorem SqT.of {K : PySem.W.Frag} (h : H a = some (.tup xs)) : SqT K H a xs := .inl (.inl h)
theorem Inv.list (I : Inv X pins σ H s) (h : SqL X.K H a xs) : ∃ its : List Value, Vals xs its ∧ PlainL s.heap a its.toArray ∧ xs.length ≤ sizeLine := by
  rcases h with h | ⟨o, its, n, hk, hc, hd, hs, hz, r⟩
  · obtain ⟨z, its, n, r, e⟩ := h.ok I.hok
    exact ⟨its, r, ⟨_, n, e, rfl, rfl, rfl⟩, z⟩
  · refine ⟨its.toList, r, ⟨o, n, I.kIn a o hk, hc, hd, by simpa using hs⟩, ?_⟩
    have e := r.length
    simp only [Array.length_toList] at e
    omega
theorem Inv.tuple (I : Inv X pins σ H s) (h : SqT X.K H a xs) : ∃ its : List Value, Vals xs its ∧ IsTup s.heap a its.toArray ∧ xs.length ≤ sizeLine := by
  rcases h with h | ⟨o, its, n, hk, hc, hs, hz, r⟩
  · obtain ⟨z, its, r, p⟩ := h.ok I.hok
    exact ⟨its, r, p, z⟩
  · refine ⟨its.toList, r, ⟨o, I.kIn a o hk, hc, n, by simpa using hs⟩, ?_⟩
    have e := r.length
    simp only [Array.length_toList] at e
    omega
theorem Inv.list_inj (I : Inv X pins σ H s) (h : SqL X.K H a xs) (h' : SqL X.K H a ys) : xs = ys := by
  obtain ⟨its, r, ⟨o, n, e, _, _, d⟩, _⟩ := I.list h
  obtain ⟨its', r', ⟨o', n', e', _, _, d'⟩, _⟩ := I.list h'
  rw [e] at e'; cases e'
  rw [d] at d'
  injection d' with d1 _
  have : its = its' := by simpa using congrArg Array.toList d1
  subst this
  exact r.inj r'
theorem Inv.tuple_inj (I : Inv X pins σ H s) (h : SqT X.K H a xs) (h' : SqT X.K H a ys) : xs = ys := by
  obtain ⟨its, r, ⟨o, e, _, n, d⟩, _⟩ := I.tuple h
  obtain ⟨its', r', ⟨o', e', _, n', d'⟩, _⟩ := I.tuple h'
  rw [e] at e'; cases e'
  rw [d] at d'
  injection d' with d1 _
  have : its = its' := by simpa using congrArg Array.toList d1
  subst this
  exact r.inj r'
end

/-! ### another wish about exceptions -/
abbrev Cx.wish (X : Cx) (E : Value → Shared → Prop) : Cx := { X with xe := E }
/-- no exception leaves -/
abbrev Cx.nox (X : Cx) : Cx := X.wish fun _ _ => False
theorem Cx.Ok.wish {X : Cx} (ok : X.Ok) (E : Value → Shared → Prop) : (X.wish E).Ok :=
  ⟨ok.mod, ok.kind, ok.glob, ok.blt, ok.above, ok.inj, ok.has, ok.cab, ok.hd, ok.frames, ok.stk, ok.exf, ok.bs, ok.bsz, ok.noex, ok.exfs, ok.funs, ok.frf⟩
theorem Cx.Ok.unwish {X : Cx} {E : Value → Shared → Prop} (ok : (X.wish E).Ok) : X.Ok :=
  ⟨ok.mod, ok.kind, ok.glob, ok.blt, ok.above, ok.inj, ok.has, ok.cab, ok.hd, ok.frames, ok.stk, ok.exf, ok.bs, ok.bsz, ok.noex, ok.exfs, ok.funs, ok.frf⟩
section
variable {X : Cx} {pins : List (Addr × Obj)} {σ : St} {H : Hp} {s : Shared} {E : Value → Shared → Prop}
theorem Inv.wish (I : Inv X pins σ H s) (E : Value → Shared → Prop) : Inv (X.wish E) pins σ H s := ⟨I.ok.wish E, I.os, I.bare, I.base, I.loc, I.cell, I.free, I.freeC, I.pin, I.hok, I.len⟩
theorem Inv.unwish (I : Inv (X.wish E) pins σ H s) : Inv X pins σ H s := ⟨I.ok.unwish, I.os, I.bare, I.base, I.loc, I.cell, I.free, I.freeC, I.pin, I.hok, I.len⟩
theorem SP.unwish {D : Ends} {f : Flow} {s' : Shared} (h : SP (X.wish E) pins D f s') : SP X pins D f s' := by
  cases f with
  | next => obtain ⟨σ', H', I, q⟩ := h; exact ⟨σ', H', I.unwish, q⟩
  | brk => obtain ⟨σ', H', I, q⟩ := h; exact ⟨σ', H', I.unwish, q⟩
  | cont => obtain ⟨σ', H', I, q⟩ := h; exact ⟨σ', H', I.unwish, q⟩
  | ret u => obtain ⟨v, σ', H', I, r, q⟩ := h; exact ⟨v, σ', H', I.unwish, r, q⟩
theorem PSs.nox {st : List Stmt} {t : TS} (h : PSs X.nox st t) : PSs X st t := fun pins s σ H D I hw =>
  wpAny_mono (h pins s σ H D (I.wish _) hw) (fun _ _ q => q.unwish) fun _ _ z => False.elim z
end

/-! ### blocks and small statements -/
section
variable {X : Cx} {st : Stmt} {rest : List Stmt} {t u : TS} {e : Expr} {te : TE} {pos : Pos}
def tNext : TS := fun D σ H => D.nx σ H
def tSeq (t u : TS) : TS := fun D σ H => t { D with nx := u D } σ H
theorem pss_nil : PSs X [] tNext := fun _ _ σ H _ I h => wpAny_execs_nil ⟨σ, H, I, h⟩
theorem pss_cons (h1 : PS X st t) (h2 : PSs X rest u) : PSs X (st :: rest) (tSeq t u) := by
  intro pins s σ H D I h
  refine wpAny_execs_cons (thn (h1 pins s σ H { D with nx := u D } I h) fun f s1 q => ?_)
  cases f with
  | next =>
    obtain ⟨σ', H', I', q⟩ := q
    exact h2 pins s1 σ' H' D I' q
  | ret v => exact q
  | brk => exact q
  | cont => exact q
theorem pss_one (h1 : PS X st t) : PSs X [st] t := by
  intro pins s σ H D I h
  refine wpAny_execs_cons (thn (h1 pins s σ H D I h) fun f s1 q => ?_)
  cases f with
  | next => exact wpAny_execs_nil q
  | ret v => exact q
  | brk => exact q
  | cont => exact q
/-- in a def's body nothing is shown -/
theorem Inv.quiet {pins : List (Addr × Obj)} {σ : St} {H : Hp} {s : Shared} (I : Inv X pins σ H s) : interactive X.env = false := by simp [interactive, I.ok.kind]
/-- an expression whose value is dropped -/
def tDrop (te : TE) : TS := fun D σ H => te σ H fun _ H1 => D.nx σ H1
theorem ps_expr (he : PE X e te) (hs : swapsWith e none pos.line X.env = pure false := by rfl) : PS X (.Expr e pos) (tDrop te) := by
  intro pins s σ H D I h
  exact wpAny_Expr_any (thn (he pins s σ H _ I h) fun v s1 ⟨x, H1, I1, r1, q1⟩ => ⟨σ, H1, I1, q1⟩) I.quiet hs
def tRet (te : TE) : TS := fun D σ H => te σ H D.rt
theorem ps_ret (he : PE X e te) : PS X (.Return (some e) pos) (tRet te) := by
  intro pins s σ H D I h
  exact wpAny_Return_some (thn (he pins s σ H _ I h) fun v s1 ⟨x, H1, I1, r1, q1⟩ => ⟨x, σ, H1, I1, r1, q1⟩)
def tIfS (c : TT) (t u : TS) : TS := fun D σ H => c σ H fun b H1 => if b = true then t D σ H1 else u D σ H1
theorem ps_if {c : Expr} {a b : List Stmt} {tc : TT} (hc : PT X c tc) (ha : PSs X a t) (hb : PSs X b u) : PS X (.If c a b pos) (tIfS tc t u) := by
  intro pins s σ H D I h
  refine wpAny_If (thn (hc pins s σ H _ I h) fun d s1 ⟨H1, I1, q1⟩ => ?_)
  cases d with
  | true => exact ha pins s1 σ H1 D I1 q1
  | false => exact hb pins s1 σ H1 D I1 q1
end

/-! ### targets -/
abbrev TG := V → St → Hp → (St → Hp → Prop) → Prop
abbrev TGs := List V → St → Hp → (St → Hp → Prop) → Prop
def PG (X : Cx) (target : Expr) (t : TG) : Prop :=
  ∀ (pins : List (Addr × Obj)) (s : Shared) (σ : St) (H : Hp) (v : V) (u : Value) (Q : St → Hp → Prop), Inv X pins σ H s → RelV v u → t v σ H Q →
    wpAny (model X.prog X.w) X.A (assign target X.env u) (fun _ s' => ∃ σ' H', Inv X pins σ' H' s' ∧ Q σ' H') X.xe s
/-- several targets, one after another -/
def PGs (X : Cx) (ts : List Expr) (t : TGs) : Prop :=
  ∀ (pins : List (Addr × Obj)) (s : Shared) (σ : St) (H : Hp) (vs : List V) (us : List Value) (Q : St → Hp → Prop), Inv X pins σ H s → Vals vs us → t vs σ H Q →
    wpAny (model X.prog X.w) X.A (assignInOrder ((assignEach ts X.env).map (·.2)) us) (fun _ s' => ∃ σ' H', Inv X pins σ' H' s' ∧ Q σ' H') X.xe s
/-- o[i] = v, by values -/
abbrev TSet := V → V → V → Hp → (Hp → Prop) → Prop
def PSet (X : Cx) (t : TSet) : Prop :=
  ∀ (pins : List (Addr × Obj)) (s : Shared) (σ : St) (H : Hp) (o i v : V) (ov iv u : Value) (Q : Hp → Prop), Inv X pins σ H s → RelV o ov → RelV i iv → RelV v u → t o i v H Q →
    wpAny (model X.prog X.w) X.A (setItem ov iv u) (fun _ s' => ∃ H', Inv X pins σ H' s' ∧ Q H') X.xe s
section
variable {X : Cx} {pos : Pos}
def gName (i : Nat) : TG := fun v σ H Q => Q (σ.set i (some v)) H
theorem pg_name {i : Nat} {x : Str} (hN : X.N.Nodup) (hi : X.N[i]? = some x) (hx : Loc X.env.scope x) (hf : X.fn x = true ∨ X.env.scope.names.lookup x = some .local := by first | exact .inl rfl | exact .inr rfl | assumption) : PG X (.Name x pos) (gName i) := by
  intro pins s σ H v u Q I r h
  exact wpAny_assign_Name (store_ok I hN hi hx r (fun s' I' => ⟨_, H, I', h⟩) hf)
def gNil : TGs := fun vs σ H Q => vs = [] ∧ Q σ H
def gCons (t : TG) (u : TGs) : TGs := fun vs σ H Q => ∃ v r, vs = v :: r ∧ t v σ H fun σ' H' => u r σ' H' Q
theorem pgs_nil : PGs X [] gNil := by
  intro pins s σ H vs us Q I r h
  obtain ⟨e, h⟩ := h
  subst e
  cases r
  exact assignInOrder_nil ⟨σ, H, I, h⟩
theorem pgs_cons {e : Expr} {es : List Expr} {t : TG} {u : TGs} (h1 : PG X e t) (h2 : PGs X es u)
    (hs : (assignEach (e :: es) X.env).map (·.2) = assign e X.env :: (assignEach es X.env).map (·.2) := by rfl) : PGs X (e :: es) (gCons t u) := by
  intro pins s σ H vs us Q I r h
  obtain ⟨v, vr, e1, h⟩ := h
  subst e1
  cases r with
  | cons r rr =>
    rw [hs]
    refine assignInOrder_cons (thn (h1 pins s σ H _ _ _ I r h) fun _ s1 ⟨σ1, H1, I1, q1⟩ => ?_)
    exact h2 pins s1 σ1 H1 _ _ Q I1 rr q1
/-- (a, b, ..) = a tuple of that length -/
def gTup (K : PySem.W.Frag) (n : Nat) (t : TGs) : TG := fun v σ H Q => ∃ a xs, v = .ref a ∧ SqT K H a xs ∧ xs.length = n ∧ t xs σ H Q
theorem pg_tup {es : List Expr} {k : Nat} {t : TGs} {n : Nat} (hc : X.calm = true) (h : PGs X es t)
    (hn : (assignEach es X.env).length = n := by rfl) (hst : (assignEach es X.env).findIdx? (·.1) = none := by rfl) : PG X (.Tuple es k pos) (gTup X.K n t) := by
  intro pins s σ H v u Q I r hw
  obtain ⟨a, xs, e1, hq, hl, hw⟩ := hw
  subst e1
  cases r
  obtain ⟨its, rv, ht, hz⟩ := I.tuple hq
  refine assign_Tuple_tuple (I.ok.hd hc) ht (by simp [hn, ← hl, rv.length]) hst fun h' hx => ?_
  have I1 : Inv X pins σ H { s with heap := h' } := I.kept (t' := s.toks) fun b o e => hx b o (Nat.ne_of_lt (Heap.lt_size e)) e
  exact h pins _ σ H xs _ Q I1 (by simpa using rv) hw
/-- o[i] = .. -/
def gSub (to ti : TE) (t : TSet) : TG := fun v σ H Q => to σ H fun o H1 => ti σ H1 fun i H2 => t o i v H2 fun H3 => Q σ H3
theorem pg_sub {o i : Expr} {to ti : TE} {t : TSet} (ho : PE X o to) (hi : PE X i ti) (hs : PSet X t)
    (ha : ∀ v, assign (.Subscript o i pos) X.env v = (do
      let ov ← holding [v] (eval o X.env)
      let iv ← holding [v, ov] (eval i X.env)
      standAt pos
      holding [v, ov, iv] (setItem ov iv v)
      release [v, ov, iv] []) := by intro _; rfl) : PG X (.Subscript o i pos) (gSub to ti t) := by
  intro pins s σ H v u Q I r h
  rw [ha]
  refine wpAny_bind (wpAny_holding (thn (ho pins s σ H _ I h) fun ov s1 ⟨x, H1, I1, r1, q1⟩ => ?_))
  refine wpAny_bind (wpAny_holding (thn (hi pins s1 σ H1 _ I1 q1) fun iv s2 ⟨y, H2, I2, r2, q2⟩ => ?_))
  refine wpAny_bind (wpAny_standAt (wpAny_bind (wpAny_holding (thn (hs pins s2 σ H2 x y v ov iv u _ I2 r1 r2 r q2) fun _ s3 ⟨H3, I3, q3⟩ => ?_))))
  exact wpAny_release ⟨σ, H3, I3, q3⟩
/-- target = value -/
def tAsg (te : TE) (g : TG) : TS := fun D σ H => te σ H fun x H1 => g x σ H1 D.nx
theorem ps_asg {tg e : Expr} {te : TE} {g : TG} (he : PE X e te) (hg : PG X tg g) (hs : swapsWithSole [tg] e pos.line X.env = pure false := by rfl) (hw : swappedStores [tg] e X.env = pure none := by rfl)
    (h1 : (assignEach [tg] X.env).map (·.2) = [assign tg X.env] := by rfl) : PS X (.Assign [tg] e pos) (tAsg te g) := by
  intro pins s σ H D I h
  refine wpAny_Assign_stores (thn (he pins s σ H _ I h) fun v s1 ⟨x, H1, I1, r1, q1⟩ => ?_) hs hw
  rw [h1]
  exact thn (hg pins s1 σ H1 x v _ I1 r1 q1) fun _ s2 q => q
/-- name = value -/
theorem ps_set {i : Nat} {x : Str} {e : Expr} {te : TE} {pos' : Pos} (hN : X.N.Nodup) (hi : X.N[i]? = some x) (hx : Loc X.env.scope x) (he : PE X e te) (hs : swapsWith e (some (.Name x pos')) pos.line X.env = pure false := by rfl) (hf : X.fn x = true ∨ X.env.scope.names.lookup x = some .local := by first | exact .inl rfl | exact .inr rfl | assumption) :
    PS X (.Assign [.Name x pos'] e pos) (tAsg te (gName i)) := by
  intro pins s σ H D I h
  refine wpAny_Assign_Name (thn (he pins s σ H _ I h) fun v s1 ⟨y, H1, I1, r1, q1⟩ => ?_) hs
  exact store_ok I1 hN hi hx r1 (fun s2 I2 => ⟨_, H1, I2, q1⟩) hf
end

/-! ### while -/
section
variable {X : Cx} {pos : Pos}
end

/-! ### what a loop or a comprehension walks -/
/-- at turn i: it yields x (the heap may grow), or it stops -/
structure It where
  go : Nat → Hp → Prop
  yld : Nat → Hp → V → Hp → Prop
  stop : Nat → Hp → Prop
/-- the iterator's own objects may turn: they are not the frame's, not pinned, younger than the entry (or a comprehension's own) -/
def FpOk (X : Cx) (pins : List (Addr × Obj)) (H : Hp) (b : Addr) : Prop :=
  H b = none ∧ b ≠ X.env.locals ∧ b ∉ X.fs ∧ (b ∈ X.ex ∨ X.s₀.heap.objs.size ≤ b) ∧ (∀ x c, X.env.cells.lookup x = some c → c ≠ b) ∧ ∀ p ∈ X.pn ++ pins, p.1 ≠ b
theorem Inv.fpOk {X : Cx} {pins : List (Addr × Obj)} {σ : St} {H H' : Hp} {s : Shared} {b : Addr} (I : Inv X pins σ H s) (hb : s.heap.objs.size ≤ b) (hn : H' b = none) : FpOk X pins H' b := by
  refine ⟨hn, Nat.ne_of_gt (Nat.lt_of_lt_of_le I.lt hb), I.nofs hb, .inr (Nat.le_trans I.sz hb), fun x c e z => ?_, fun p hp z => ?_⟩
  · obtain ⟨v, q⟩ := I.cell x c e
    exact absurd (Nat.lt_of_lt_of_le q.lt (by rw [z]; exact hb)) (Nat.lt_irrefl _)
  · exact absurd (Nat.lt_of_lt_of_le (Heap.lt_size (I.pin p hp).1) (by rw [z]; exact hb)) (Nat.lt_irrefl _)
structure Turn (P : Program) (w : World) (K : PySem.W.Frag) (tg : Expr) (J : It) (fp : List Addr) (it : Addr) (tn : Nat → Heap → Prop) : Prop where
  mem : it ∈ fp
  obj : ∀ i h, tn i h → ∀ b ∈ fp, ∃ o, h.get? b = some o ∧ ∀ v, o.data ≠ .cell v
  keep : ∀ i h h', tn i h → (∀ b ∈ fp, ∀ o, h.get? b = some o → h'.get? b = some o) → tn i h'
  item : ∀ (X : Cx), X.prog = P → X.w = w → X.K = K → X.calm = true → ∀ (i : Nat) (pins : List (Addr × Obj)) (s : Shared) (σ : St) (H : Hp) (E : Value → Shared → Prop), Inv X pins σ H s → (∀ b ∈ fp, FpOk X pins H b) → tn i s.heap → J.go i H →
    wpAny (model P w) X.A (pyNext (.ref it)) (fun r s1 => ∃ u, r = some u ∧
      wpAny (model P w) X.A (letOwnedTupleGo tg (.ref it) u) (fun _ s2 => ∃ x H', Inv X pins σ H' s2 ∧ RelV x u ∧ J.yld i H x H' ∧ tn (i + 1) s2.heap ∧ ∀ b ∈ fp, H' b = none) E s1) E s
  done : ∀ (X : Cx), X.prog = P → X.w = w → X.K = K → X.calm = true → ∀ (i : Nat) (pins : List (Addr × Obj)) (s : Shared) (σ : St) (H : Hp) (E : Value → Shared → Prop), Inv X pins σ H s → (∀ b ∈ fp, FpOk X pins H b) → tn i s.heap → J.stop i H →
    wpAny (model P w) X.A (pyNext (.ref it)) (fun r s1 => r = none ∧ Inv X pins σ H s1) E s
  self : ∀ (A : Around) (i : Nat) (s : Shared) (Q : Value → Shared → Prop) (E : Value → Shared → Prop), tn i s.heap → Q (.ref it) s → wpAny (model P w) A (pyIter (.ref it)) Q E s
abbrev TI := St → Hp → (It → Hp → Prop) → Prop
/-- an iterator has come -/
def PIE (X : Cx) (pins : List (Addr × Obj)) (σ : St) (tg : Expr) (R : It → Hp → Prop) (itv : Value) (s2 : Shared) : Prop :=
  ∃ (it : Addr) (fp : List Addr) (tn : Nat → Heap → Prop) (J : It) (H' : Hp), itv = .ref it ∧ Inv X pins σ H' s2 ∧ Turn X.prog X.w X.K tg J fp it tn ∧ tn 0 s2.heap ∧ (∀ b ∈ fp, FpOk X pins H' b) ∧ R J H'
def PI (X : Cx) (tg iter : Expr) (wi : TI) : Prop :=
  ∀ (pins : List (Addr × Obj)) (s : Shared) (σ : St) (H : Hp) (R : It → Hp → Prop), Inv X pins σ H s → wi σ H R →
    wpAny (model X.prog X.w) X.A (eval iter X.env) (fun v s1 => wpAny (model X.prog X.w) X.A (pyIter v) (PIE X pins σ tg R) X.xe s1) X.xe s

/-- the step ahead of the store is nothing for an iterator that keeps no tuple -/
theorem go_of {M : Model} {A : Around} {E : Value → Shared → Prop} {s : Shared} {tg : Expr} {it : Addr} {u : Value} {o : Obj} {n : String} {vs : Array Value} {Q : Unit → Shared → Prop} (ho : s.heap.get? it = some o) (hc : o.cls = .type n) (hd : o.data = .fields vs)
    (hn : ["enumerate", "zip", "dict_itemiterator", "dict_reverseitemiterator", "odict_iterator", "itertools.zip_longest", "itertools.pairwise"].contains n = false) (hQ : Q () s) : wpAny M A (letOwnedTupleGo tg (.ref it) u) Q E s := by
  unfold letOwnedTupleGo
  cases tg <;> first
    | exact wpAny_pure hQ
    | (cases u <;> first
        | exact wpAny_pure hQ
        | (refine wpAny_bind (wpAny_load ho ?_)
           rw [hc, hd]
           show wpAny M A (if (["enumerate", "zip", "dict_itemiterator", "dict_reverseitemiterator", "odict_iterator", "itertools.zip_longest", "itertools.pairwise"].contains n && vs[0]? == some (rawInt _)) = true then _ else _) Q E s
           rw [if_neg (by intro h; rw [hn, Bool.false_and] at h; cases h)]
           exact wpAny_pure hQ))

/-- the list at a, as it stands at each turn (a loop may append to it) -/
def Itl (K : PySem.W.Frag) (a : Addr) : It :=
  ⟨fun i H => ∃ xs x, SqL K H a xs ∧ xs[i]? = some x, fun i H x H' => H' = H ∧ ∀ xs, SqL K H a xs → xs[i]? = some x, fun i H => ∃ xs, SqL K H a xs ∧ xs.length ≤ i⟩
def Itt (K : PySem.W.Frag) (a : Addr) : It :=
  ⟨fun i H => ∃ xs x, SqT K H a xs ∧ xs[i]? = some x, fun i H x H' => H' = H ∧ ∀ xs, SqT K H a xs → xs[i]? = some x, fun i H => ∃ xs, SqT K H a xs ∧ xs.length ≤ i⟩
/-- lo, lo + 1, .. (n of them) -/
def Itr (lo : Int) (n : Nat) : It := ⟨fun i _ => i < n, fun i H x H' => H' = H ∧ x = .int (lo + i), fun i _ => n ≤ i⟩
theorem turn_list {P : Program} {w : World} {K : PySem.W.Frag} {tg : Expr} (a it : Addr) : Turn P w K tg (Itl K a) [it] it (fun i h => h.IsListIter it a i) where
  mem := by simp
  obj := fun i h st b hb => by
    have e : b = it := by simpa using hb
    subst e
    obtain ⟨o, e, c, d⟩ := st
    exact ⟨o, e, fun v z => by rw [d] at z; cases z⟩
  keep := fun i h h' st k => st.at fun o e => k it (by simp) o e
  item := by
    intro X hP hw hK hc i pins s σ H E I hf st hg
    subst hP hw hK
    obtain ⟨xs, x, hq, hx⟩ := hg
    obtain ⟨its, rv, p, hz⟩ := I.list hq
    obtain ⟨u, hu, ru⟩ := rv.get hx
    obtain ⟨f0, f1, f2, f3, f4, f5⟩ := hf it (by simp)
    refine wpAny_pyNext_list_item st p.isList (x := u) (by simpa using hu) fun h' st' sb => ?_
    have I1 : Inv X pins σ H { s with heap := h' } := I.turned (t' := s.toks) (fun b o hb e => (sb.2 b hb).trans e) f0 f1 f3 f4 f5
    obtain ⟨o, e, c, d⟩ := id st'
    exact ⟨u, rfl, go_of (s := { s with heap := h' }) e c d (by decide) ⟨x, H, I1, ru, ⟨rfl, fun ys hy => by rw [I.list_inj hy hq]; exact hx⟩, st', fun b hb => (hf b hb).1⟩⟩
  done := by
    intro X hP hw hK hc i pins s σ H E I hf st hg
    subst hP hw hK
    obtain ⟨xs, hq, hx⟩ := hg
    obtain ⟨its, rv, p, hz⟩ := I.list hq
    obtain ⟨f0, f1, f2, f3, f4, f5⟩ := hf it (by simp)
    have hl := rv.length
    exact wpAny_pyNext_list_end (I.ok.hd hc) st p.isList (by simp; omega) fun h' eb => ⟨rfl, I.turned (t' := s.toks) (fun b o hb e => eb b o hb e) f0 f1 f3 f4 f5⟩
  self := fun _ _ _ _ _ st h => wpAny_pyIter_listiter st h
theorem turn_tuple {P : Program} {w : World} {K : PySem.W.Frag} {tg : Expr} (a it : Addr) : Turn P w K tg (Itt K a) [it] it (fun i h => h.IsTupleIter it a i) where
  mem := by simp
  obj := fun i h st b hb => by
    have e : b = it := by simpa using hb
    subst e
    obtain ⟨o, e, c, d⟩ := st
    exact ⟨o, e, fun v z => by rw [d] at z; cases z⟩
  keep := fun i h h' st k => st.at fun o e => k it (by simp) o e
  item := by
    intro X hP hw hK hc i pins s σ H E I hf st hg
    subst hP hw hK
    obtain ⟨xs, x, hq, hx⟩ := hg
    obtain ⟨its, rv, p, hz⟩ := I.tuple hq
    obtain ⟨u, hu, ru⟩ := rv.get hx
    obtain ⟨f0, f1, f2, f3, f4, f5⟩ := hf it (by simp)
    refine wpAny_pyNext_tuple_item st (show s.heap.IsTuple a its.toArray from p) (x := u) (by simpa using hu) fun h' st' sb => ?_
    have I1 : Inv X pins σ H { s with heap := h' } := I.turned (t' := s.toks) (fun b o hb e => (sb.2 b hb).trans e) f0 f1 f3 f4 f5
    obtain ⟨o, e, c, d⟩ := id st'
    exact ⟨u, rfl, go_of (s := { s with heap := h' }) e c d (by decide) ⟨x, H, I1, ru, ⟨rfl, fun ys hy => by rw [I.tuple_inj hy hq]; exact hx⟩, st', fun b hb => (hf b hb).1⟩⟩
  done := by
    intro X hP hw hK hc i pins s σ H E I hf st hg
    subst hP hw hK
    obtain ⟨xs, hq, hx⟩ := hg
    obtain ⟨its, rv, p, hz⟩ := I.tuple hq
    obtain ⟨f0, f1, f2, f3, f4, f5⟩ := hf it (by simp)
    have hl := rv.length
    exact wpAny_pyNext_tuple_end (I.ok.hd hc) st (show s.heap.IsTuple a its.toArray from p) (by simp; omega) fun h' eb => ⟨rfl, I.turned (t' := s.toks) (fun b o hb e => eb b o hb e) f0 f1 f3 f4 f5⟩
  self := fun _ _ _ _ _ st h => wpAny_pyIter_tupleiter st h
theorem turn_range {P : Program} {w : World} {K : PySem.W.Frag} {tg : Expr} (it : Addr) (lo : Int) (n : Nat) : Turn P w K tg (Itr lo n) [it] it (fun i h => IsRangeIter h it (lo + (i : Nat) * 1) ((n : Int) - (i : Nat)) 1) where
  mem := by simp
  obj := fun i h st b hb => by
    have e : b = it := by simpa using hb
    subst e
    exact ⟨_, st, fun v z => by
      have z' : Data.fields _ = Data.cell v := z
      cases z'⟩
  keep := fun i h h' st k => k it (by simp) _ st
  item := by
    intro X hP hw hK hc i pins s σ H E I hf st hg
    subst hP hw hK
    obtain ⟨f0, f1, f2, f3, f4, f5⟩ := hf it (by simp)
    have W := Walks.range (prog := X.prog) (w := X.w) (I.ok.hd hc) it lo 1 n
    refine W.item i s _ _ hg st fun v h' tk hv st' kk => ?_
    obtain ⟨t, rfl⟩ := hv
    have I1 : Inv X pins σ H { s with heap := h', toks := tk } := I.turned (fun b o hb e => kk b o (by simpa using hb) e) f0 f1 f3 f4 f5
    refine ⟨_, rfl, go_of (s := { s with heap := h', toks := tk }) (n := "range_iterator") st' rfl rfl (by decide) ⟨.int (lo + i), H, I1, ⟨t, ?_⟩, ⟨rfl, rfl⟩, st', fun b hb => (hf b hb).1⟩⟩
    rw [Int.mul_one]
  done := by
    intro X hP hw hK hc i pins s σ H E I hf st hg
    subst hP hw hK
    obtain ⟨f0, f1, f2, f3, f4, f5⟩ := hf it (by simp)
    exact wpAny_pyNext_range_end (I.ok.hd hc) st (by have : n ≤ i := hg; omega) fun h' eb => ⟨rfl, I.turned (t' := s.toks) (fun b o hb e => eb b o hb e) f0 f1 f3 f4 f5⟩
  self := fun _ _ _ _ _ st h => wpAny_pyIter_rangeiter st h
end L2

namespace L2
open PySem PySem.Spec PyProof.Rows
section
variable {X : Cx} {tg : Expr}
/-- a range object just made, walked -/
theorem range_it {pins : List (Addr × Obj)} {σ : St} {H : Hp} {s : Shared} {R : It → Hp → Prop} {E : Value → Shared → Prop} {lo hi : Int} {t u v : Tok} {tk : Nat} (I : Inv X pins σ H s) (h1 : -(2 ^ 62) ≤ lo) (h2 : lo < 2 ^ 62) (h3 : -(2 ^ 62) ≤ hi) (h4 : hi < 2 ^ 62)
    (q : R (Itr lo (hi - lo).toNat) H) : wpAny (model X.prog X.w) X.A (pyIter (.ref s.heap.objs.size)) (PIE X pins σ tg R) E { s with heap := s.heap.push { cls := .type "range", data := .fields #[.int lo t, .int hi u, .int 1 v] }, toks := tk } := by
  refine wpAny_pyIter_range (IsRange.new ..) (small_one h1 h2 h3 h4) ?_
  have I1 : Inv X pins σ H { s with heap := s.heap.push { cls := .type "range", data := .fields #[.int lo t, .int hi u, .int 1 v] }, toks := tk } := I.kept fun b o e => Heap.get?_push_of_some _ e
  refine ⟨(s.heap.push { cls := .type "range", data := .fields #[.int lo t, .int hi u, .int 1 v] }).objs.size, [(s.heap.push { cls := .type "range", data := .fields #[.int lo t, .int hi u, .int 1 v] }).objs.size], _, _, H, rfl,
    I1.kept (t' := tk) fun b o e => Heap.get?_push_of_some _ e, turn_range _ lo (hi - lo).toNat, ?_, fun b hb => ?_, q⟩
  · have e1 : lo + ((0 : Nat) : Int) * 1 = lo := by simp
    have e2 : (((hi - lo).toNat : Nat) : Int) - ((0 : Nat) : Int) = Builtin.Range.rangeSize lo hi 1 := by rw [rangeSize_one]; split <;> omega
    show IsRangeIter _ _ (lo + ((0 : Nat) : Int) * 1) ((((hi - lo).toNat : Nat) : Int) - ((0 : Nat) : Int)) 1
    rw [e1, e2]
    exact Heap.get?_push_size _ rfl
  · have e : b = (s.heap.push { cls := .type "range", data := .fields #[.int lo t, .int hi u, .int 1 v] }).objs.size := by simpa using hb
    subst e
    exact I1.fpOk (Nat.le_refl _) (I1.hok.fresh (Nat.le_refl _))
def iRng1 (ta : TA) : TI := fun σ H R => ta σ H fun vs H1 => ∃ j : Int, vs = [.int j] ∧ -(2 ^ 62) ≤ j ∧ j < 2 ^ 62 ∧ R (Itr 0 j.toNat) H1
def iRng2 (ta : TA) : TI := fun σ H R => ta σ H fun vs H1 => ∃ i j : Int, vs = [.int i, .int j] ∧ (-(2 ^ 62) ≤ i ∧ i < 2 ^ 62 ∧ -(2 ^ 62) ≤ j ∧ j < 2 ^ 62) ∧ R (Itr i (j - i).toNat) H1
theorem pi_range1 {a : Expr} {ta : TA} {p pos : Pos} (hg : Gl X "range") (hm : X.mg "range" = none) (ha : PA X [a] ta) (hs : starEach [a] X.env = [(false, eval a X.env)] := by rfl) : PI X tg (.Call (.Name "range" p) [a] [] pos) (iRng1 ta) := by
  intro pins s σ H R I h
  refine Call_ (ld_blt I hg hm boot_range (PyProof.Rows.callWith_type1 (thn (ha pos pins s σ H _ I h) fun us s1 ⟨vs, H1, I1, r1, q1⟩ => ?_) hs rfl))
  obtain ⟨j, e, q1, q2, q⟩ := q1
  subst e
  cases r1 with
  | cons r rr =>
    cases rr
    obtain ⟨t, rfl⟩ := r
    exact call_range_1 (range_it I1 (by omega) (by omega) q1 q2 (by simpa using q))
theorem pi_range2 {a b : Expr} {ta : TA} {p pos : Pos} (hg : Gl X "range") (hm : X.mg "range" = none) (ha : PA X [a, b] ta) (hs : starEach [a, b] X.env = [(false, eval a X.env), (false, eval b X.env)] := by rfl) (hs2 : starEach [b] X.env = [(false, eval b X.env)] := by rfl) :
    PI X tg (.Call (.Name "range" p) [a, b] [] pos) (iRng2 ta) := by
  intro pins s σ H R I h
  refine Call_ (ld_blt I hg hm boot_range (PyProof.Rows.callWith_type1 (thn (ha pos pins s σ H _ I h) fun us s1 ⟨vs, H1, I1, r1, q1⟩ => ?_) (by rw [hs, hs2]) (by rw [hs2]; rfl)))
  obtain ⟨i, j, e, ⟨q1, q2, q3, q4⟩, q⟩ := q1
  subst e
  cases r1 with
  | cons r rr =>
    cases rr with
    | cons r' rr =>
      cases rr
      obtain ⟨t, rfl⟩ := r
      obtain ⟨t', rfl⟩ := r'
      exact call_range_2 (range_it I1 q1 q2 q3 q4 q)

/-! ### for -/
/-- W: the invariant by the turn and a measure; N: what the body is to reach -/
def tFor (wi : TI) (g : TG) (tb : TS) : TS := fun D σ H => wi σ H fun J H1 => ∃ W : Nat → Nat → St → Hp → Prop, (∃ m, W 0 m σ H1) ∧ ∀ i m σ H, W i m σ H →
  (J.stop i H ∧ D.nx σ H) ∨ (J.go i H ∧ ∃ N : St → Hp → Prop, (∀ σ' H', N σ' H' → ∃ m', m' < m ∧ W (i + 1) m' σ' H') ∧ ∀ x H', J.yld i H x H' → g x σ H' fun σ2 H2 => tb { D with nx := N, ct := N, bk := D.nx } σ2 H2)
/-- the records at fp as they stand -/
def pinsAt (fp : List Addr) (h : Heap) : List (Addr × Obj) := fp.filterMap fun b => (h.get? b).map fun o => (b, o)
theorem mem_pinsAt {fp : List Addr} {h : Heap} {b : Addr} {o : Obj} (hb : b ∈ fp) (e : h.get? b = some o) : (b, o) ∈ pinsAt fp h := List.mem_filterMap.mpr ⟨b, hb, by rw [e]; rfl⟩
theorem of_pinsAt {fp : List Addr} {h : Heap} {p : Addr × Obj} (hp : p ∈ pinsAt fp h) : p.1 ∈ fp ∧ h.get? p.1 = some p.2 := by
  obtain ⟨b, hb, e⟩ := List.mem_filterMap.mp hp
  cases q : h.get? b with
  | none => rw [q] at e; cases e
  | some o =>
    rw [q] at e
    have e' : (b, o) = p := Option.some.inj e
    subst e'
    exact ⟨hb, q⟩
theorem Inv.pinned {pins : List (Addr × Obj)} {σ : St} {H : Hp} {s : Shared} {fp : List Addr} (I : Inv X pins σ H s) (hf : ∀ b ∈ fp, FpOk X pins H b) (ho : ∀ b ∈ fp, ∃ o, s.heap.get? b = some o ∧ ∀ v, o.data ≠ .cell v) : Inv X (pins ++ pinsAt fp s.heap) σ H s :=
  I.pins_of fun p hp => (List.mem_append.mp hp).elim (fun z => I.pin p (List.mem_append_right _ z)) fun z => by
    obtain ⟨hb, e⟩ := of_pinsAt z
    obtain ⟨f0, f1, f2, _⟩ := hf p.1 hb
    obtain ⟨o, e', d⟩ := ho p.1 hb
    rw [e] at e'; cases e'
    exact ⟨e, f0, f1, f2, d⟩
theorem Inv.unpinned {pins pl : List (Addr × Obj)} {σ : St} {H : Hp} {s : Shared} (I : Inv X (pins ++ pl) σ H s) : Inv X pins σ H s := I.pins_of fun p hp => I.pin p (List.mem_append_right _ (List.mem_append_left _ hp))
theorem ps_for {iter : Expr} {body : List Stmt} {wi : TI} {g : TG} {tb : TS} {pos : Pos} (hp : PassesOwn (model X.prog X.w) X.A X.env X.xe) (hc : X.calm = true) (hi : PI X tg iter wi) (hg : PG X tg g) (hb : PSs X body tb)
    (hs : ∀ x, foldedSetIterable iter X.env x = pure x := by intro _; rfl) : PS X (.For tg iter body [] pos) (tFor wi g tb) := by
  intro pins s σ H D I h
  refine wpAny_For (thn (hi pins s σ H _ I h) fun v s1 h1 => thn h1 fun itv s2 h2 => ?_) hs
  obtain ⟨it, fp, tn, J, H2, e, I2, T, st2, f2, W, ⟨m0, w0⟩, turn⟩ := h2
  subst e
  -- what stays true of the iterator's objects through the loop
  have stat : ∀ {H' : Hp}, (∀ b ∈ fp, H' b = none) → ∀ b ∈ fp, FpOk X pins H' b := fun hn b hb => ⟨hn b hb, (f2 b hb).2⟩
  refine codeAny_forLoop_any (fun n s' => ∃ i σ' H', Inv X pins σ' H' s' ∧ tn i s'.heap ∧ (∀ b ∈ fp, H' b = none) ∧ W i n σ' H') ?_ m0 ⟨0, σ, H2, I2, st2, fun b hb => (f2 b hb).1, w0⟩
  rintro n s3 ⟨i, σ3, H3, I3, st3, fr3, w3⟩
  rcases turn i n σ3 H3 w3 with ⟨stop, qn⟩ | ⟨go, N, hN, step⟩
  · refine wpAny_passesOwn hp (thn (T.done X rfl rfl rfl hc i pins s3 σ3 H3 X.xe I3 (stat fr3) st3 stop) fun r s4 ⟨hr, I4⟩ => ?_)
    subst hr
    exact wpAny_execs_nil ⟨σ3, H3, I4, qn⟩
  · refine wpAny_passesOwn hp (thn (T.item X rfl rfl rfl hc i pins s3 σ3 H3 X.xe I3 (stat fr3) st3 go) fun r s4 ⟨u, hr, h4⟩ => ?_)
    subst hr
    refine wpAny_passesOwn hp (thn h4 fun _ s5 ⟨x, H5, I5, r5, y5, st5, fr5⟩ => ?_)
    have I5' := I5.pinned (stat fr5) (T.obj _ _ st5)
    refine wpAny_passesOwn hp (thn (hg _ s5 σ3 H5 x u _ I5' r5 (step x H5 y5)) fun _ s6 ⟨σ6, H6, I6, q6⟩ => ?_)
    refine wpAny_passesOwn hp (thn (hb _ s6 σ6 H6 _ I6 q6) fun f s7 q7 => ?_)
    have again : ∀ {σ7 : St} {H7 : Hp}, Inv X (pins ++ pinsAt fp s5.heap) σ7 H7 s7 → N σ7 H7 → ∃ m, m < n ∧ ∃ i σ' H', Inv X pins σ' H' s7 ∧ tn i s7.heap ∧ (∀ b ∈ fp, H' b = none) ∧ W i m σ' H' := fun {σ7 H7} I7 n7 => by
      obtain ⟨m', hm, w7⟩ := hN σ7 H7 n7
      refine ⟨m', hm, i + 1, σ7, H7, I7.unpinned, T.keep _ _ _ st5 fun b hb o e => (I7.pin (b, o) (List.mem_append_right _ (List.mem_append_right _ (mem_pinsAt hb e)))).1, fun b hb => ?_, w7⟩
      obtain ⟨o, e, d⟩ := T.obj _ _ st5 b hb
      exact (I7.pin (b, o) (List.mem_append_right _ (List.mem_append_right _ (mem_pinsAt hb e)))).2.1
    cases f with
    | next => obtain ⟨σ7, H7, I7, n7⟩ := q7; exact again I7 n7
    | cont => obtain ⟨σ7, H7, I7, n7⟩ := q7; exact again I7 n7
    | brk => obtain ⟨σ7, H7, I7, q7⟩ := q7; exact ⟨σ7, H7, I7.unpinned, q7⟩
    | ret v => obtain ⟨x7, σ7, H7, I7, r7, q7⟩ := q7; exact ⟨x7, σ7, H7, I7.unpinned, r7, q7⟩
end

/-! ### the forms one uses -/
/-- over a list that the body leaves as it is -/
theorem for_list {K : PySem.W.Frag} {a : Addr} {xs : List V} {g : TG} {tb : TS} {D : Ends} {σ : St} {H : Hp} (Pv : Nat → St → Hp → Prop) (h0 : Pv 0 σ H) (hl : ∀ i σ H, i ≤ xs.length → Pv i σ H → SqL K H a xs)
    (hs : ∀ i x σ H, xs[i]? = some x → Pv i σ H → g x σ H fun σ2 H2 => tb { D with nx := Pv (i + 1), ct := Pv (i + 1), bk := D.nx } σ2 H2) (hd : ∀ σ H, Pv xs.length σ H → D.nx σ H) :
    ∃ W : Nat → Nat → St → Hp → Prop, (∃ m, W 0 m σ H) ∧ ∀ i m σ H, W i m σ H →
      ((Itl K a).stop i H ∧ D.nx σ H) ∨ ((Itl K a).go i H ∧ ∃ N : St → Hp → Prop, (∀ σ' H', N σ' H' → ∃ m', m' < m ∧ W (i + 1) m' σ' H') ∧ ∀ x H', (Itl K a).yld i H x H' → g x σ H' fun σ2 H2 => tb { D with nx := N, ct := N, bk := D.nx } σ2 H2) := by
  refine ⟨fun i m σ H => m = xs.length - i ∧ i ≤ xs.length ∧ Pv i σ H, ⟨xs.length, by simp, Nat.zero_le _, h0⟩, ?_⟩
  rintro i m σ H ⟨rfl, hi, p⟩
  have q := hl i σ H hi p
  by_cases hlt : i < xs.length
  · refine .inr ⟨⟨xs, xs[i], q, by simp [hlt]⟩, Pv (i + 1), fun σ' H' p' => ⟨xs.length - (i + 1), by omega, rfl, hlt, p'⟩, fun x H' y => ?_⟩
    obtain ⟨e, y⟩ := y
    subst e
    exact hs i x σ _ (y xs q) p
  · have e : i = xs.length := by omega
    subst e
    exact .inl ⟨⟨xs, q, Nat.le_refl _⟩, hd σ H p⟩
theorem for_range {lo : Int} {n : Nat} {g : TG} {tb : TS} {D : Ends} {σ : St} {H : Hp} (Pv : Nat → St → Hp → Prop) (h0 : Pv 0 σ H)
    (hs : ∀ i σ H, i < n → Pv i σ H → g (.int (lo + i)) σ H fun σ2 H2 => tb { D with nx := Pv (i + 1), ct := Pv (i + 1), bk := D.nx } σ2 H2) (hd : ∀ σ H, Pv n σ H → D.nx σ H) :
    ∃ W : Nat → Nat → St → Hp → Prop, (∃ m, W 0 m σ H) ∧ ∀ i m σ H, W i m σ H →
      ((Itr lo n).stop i H ∧ D.nx σ H) ∨ ((Itr lo n).go i H ∧ ∃ N : St → Hp → Prop, (∀ σ' H', N σ' H' → ∃ m', m' < m ∧ W (i + 1) m' σ' H') ∧ ∀ x H', (Itr lo n).yld i H x H' → g x σ H' fun σ2 H2 => tb { D with nx := N, ct := N, bk := D.nx } σ2 H2) := by
  refine ⟨fun i m σ H => m = n - i ∧ i ≤ n ∧ Pv i σ H, ⟨n, by simp, Nat.zero_le _, h0⟩, ?_⟩
  rintro i m σ H ⟨rfl, hi, p⟩
  by_cases hlt : i < n
  · refine .inr ⟨hlt, Pv (i + 1), fun σ' H' p' => ⟨n - (i + 1), by omega, rfl, hlt, p'⟩, fun x H' y => ?_⟩
    obtain ⟨e, y⟩ := y
    subst e y
    exact hs i σ _ hlt p
  · have e : i = n := by omega
    subst e
    exact .inl ⟨Nat.le_refl _, hd σ H p⟩
end L2

namespace L2
open PySem PySem.Spec PyProof.Rows

abbrev R2 := V → V → Hp → VK → Prop
/-- a two-place operation on values: f is binaryOp op, inplaceOp op or compareOp op -/
def OpR (X : Cx) (f : Value → Value → Sem Value) (r : R2) : Prop :=
  ∀ (pins : List (Addr × Obj)) (s : Shared) (σ : St) (H : Hp) (x y : V) (v u : Value) (Q : VK), Inv X pins σ H s → RelV x v → RelV y u → r x y H Q →
    wpAny (model X.prog X.w) X.A (f v u) (EP X pins σ Q) X.xe s
/-- a call of a value that is known (a builtin, a type) with values -/
def CallR (X : Cx) (f : Value) (r : List V → Hp → VK → Prop) : Prop :=
  ∀ (pins : List (Addr × Obj)) (s : Shared) (σ : St) (H : Hp) (xs : List V) (us : List Value) (Q : VK), Inv X pins σ H s → Vals xs us → r xs H Q →
    wpAny (model X.prog X.w) X.A (call f us) (EP X pins σ Q) X.xe s
/-- a value's truth -/
def TruR (X : Cx) (r : V → Hp → (Bool → Hp → Prop) → Prop) : Prop :=
  ∀ (pins : List (Addr × Obj)) (s : Shared) (σ : St) (H : Hp) (x : V) (v : Value) (Q : Bool → Hp → Prop), Inv X pins σ H s → RelV x v → r x H Q →
    wpAny (model X.prog X.w) X.A (truthy v) (TP X pins σ Q) X.xe s

def tOp (r : R2) (ta tb : TE) : TE := fun σ H Q => ta σ H fun x H1 => tb σ H1 fun y H2 => r x y H2 Q
/-- ints in, under C, and a value out -/
def rI (C : Int → Int → Prop) (g : Int → Int → V) : R2 := fun x y H Q => ∃ i j, x = .int i ∧ y = .int j ∧ C i j ∧ Q (g i j) H
def rI0 (g : Int → Int → V) : R2 := fun x y H Q => ∃ i j, x = .int i ∧ y = .int j ∧ Q (g i j) H

section
variable {X : Cx} {a b c : Expr} {ta tb tc : TE} {pos : Pos}

theorem binT (ha : PE X a ta) (hb : PE X b tb) {pins : List (Addr × Obj)} {s : Shared} {σ : St} {H : Hp} {R : V → V → Hp → Prop} (I : Inv X pins σ H s)
    (h : ta σ H fun x H1 => tb σ H1 fun y H2 => R x y H2) {Q : Value → Shared → Prop} {f : Value → Value → Sem Value}
    (hf : ∀ v u s2 x y H2, Inv X pins σ H2 s2 → RelV x v → RelV y u → R x y H2 → wpAny (model X.prog X.w) X.A (f v u) Q X.xe s2) :
    wpAny (model X.prog X.w) X.A (eval a X.env) (fun v s₁ => wpAny (model X.prog X.w) X.A (eval b X.env) (fun u s₂ => wpAny (model X.prog X.w) X.A (f v u) Q X.xe s₂) X.xe s₁) X.xe s := by
  refine thn (ha pins s σ H _ I h) fun v s1 ⟨x, H1, I1, r1, q1⟩ => ?_
  refine thn (hb pins s1 σ H1 _ I1 q1) fun u s2 ⟨y, H2, I2, r2, q2⟩ => ?_
  exact hf v u s2 x y H2 I2 r1 r2 q2

theorem pe_op {op : Operator} {r : R2} (ho : OpR X (binaryOp op) r) (ha : PE X a ta) (hb : PE X b tb) : PE X (.BinOp a op b pos) (tOp r ta tb) := by
  intro pins s σ H Q I h
  exact wpAny_BinOp (binT ha hb I h fun v u s2 x y H2 I2 rx ry q => ho pins s2 σ H2 x y v u Q I2 rx ry q)

/-! ### ints -/
theorem opI {f : Value → Value → Sem Value} {C : Int → Int → Prop} {g : Int → Int → Int}
    (rule : ∀ (i j : Int) (t u : Tok) (s : Shared) (Q : Value → Shared → Prop) (E : Value → Shared → Prop), C i j → Q (.int (g i j) s.toks) { s with toks := s.toks + 1 } → wpAny (model X.prog X.w) X.A (f (.int i t) (.int j u)) Q E s) :
    OpR X f (rI C fun i j => .int (g i j)) := by
  intro pins s σ H x y v u Q I rx ry h
  obtain ⟨i, j, rfl, rfl, hc, q⟩ := h
  obtain ⟨t, rfl⟩ := rx
  obtain ⟨t', rfl⟩ := ry
  exact rule i j t t' s _ _ hc ⟨.int (g i j), H, I.tok _, ⟨_, rfl⟩, q⟩
theorem opI0 {f : Value → Value → Sem Value} {g : Int → Int → Int}
    (rule : ∀ (i j : Int) (t u : Tok) (s : Shared) (Q : Value → Shared → Prop) (E : Value → Shared → Prop), Q (.int (g i j) s.toks) { s with toks := s.toks + 1 } → wpAny (model X.prog X.w) X.A (f (.int i t) (.int j u)) Q E s) :
    OpR X f (rI0 fun i j => .int (g i j)) := by
  intro pins s σ H x y v u Q I rx ry h
  obtain ⟨i, j, rfl, rfl, q⟩ := h
  obtain ⟨t, rfl⟩ := rx
  obtain ⟨t', rfl⟩ := ry
  exact rule i j t t' s _ _ ⟨.int (g i j), H, I.tok _, ⟨_, rfl⟩, q⟩
theorem opB0 {f : Value → Value → Sem Value} {g : Int → Int → Bool}
    (rule : ∀ (i j : Int) (t u : Tok) (s : Shared) (Q : Value → Shared → Prop) (E : Value → Shared → Prop), Q (.bool (g i j)) s → wpAny (model X.prog X.w) X.A (f (.int i t) (.int j u)) Q E s) :
    OpR X f (rI0 fun i j => .bl (g i j)) := by
  intro pins s σ H x y v u Q I rx ry h
  obtain ⟨i, j, rfl, rfl, q⟩ := h
  obtain ⟨t, rfl⟩ := rx
  obtain ⟨t', rfl⟩ := ry
  exact rule i j t t' s _ _ ⟨.bl (g i j), H, I, rfl, q⟩

def CDiv (i j : Int) : Prop := 0 < j ∧ j < 1073741824
def CPow (i j : Int) : Prop := 0 ≤ j ∧ j ≤ 1000000 ∧ i.natAbs < 2 ^ 64
def CMul (i j : Int) : Prop := (-(2 ^ 64) < i ∧ i < 2 ^ 64) ∨ (-(2 ^ 64) < j ∧ j < 2 ^ 64)
theorem CMul.ok {i j : Int} (h : CMul i j) : IntMulOk i j := by
  rcases h with ⟨h1, h2⟩ | ⟨h1, h2⟩
  · exact .of_left (intBits_le_64 h1 h2)
  · exact .of_right (intBits_le_64 h1 h2)

theorem op_add : OpR X (binaryOp .Add) (rI0 fun i j => .int (i + j)) := opI0 fun _ _ _ _ _ _ _ q => add_int q
theorem op_mul : OpR X (binaryOp .Mult) (rI CMul fun i j => .int (i * j)) := opI fun _ _ _ _ _ _ _ hc q => mul_int q hc.ok
/-- // by a positive divisor -/
theorem op_fdiv : OpR X (binaryOp .FloorDiv) (rI CDiv fun i j => .int (i / j)) := opI fun i j _ _ _ _ _ hc q => by
  have h1 : (0 : Int) < j := hc.1
  have h2 : j < 1073741824 := hc.2
  exact floordiv_int (by omega) (by rw [Int.fdiv_eq_ediv_of_nonneg i (by omega)]; exact q) (.inl (PyProof.noPylong_small (by omega)))
/-- % by a positive divisor of any size -/
theorem op_mod : OpR X (binaryOp .Mod) (rI (fun _ j => 0 < j) fun i j => .int (i % j)) := opI fun i j _ _ _ _ _ hc q => by
  have h1 : (0 : Int) < j := hc
  exact mod_int' (by omega) (by rw [Int.fmod_eq_emod_of_nonneg i (by omega)]; exact q)
theorem op_pow : OpR X (binaryOp .Pow) (rI CPow fun i j => .int (i ^ j.toNat)) := opI fun _ _ _ _ _ _ _ hc q => pow_int_small hc.1 hc.2.1 hc.2.2 q



/-! ### bools among ints: n += (a < b) -/
end

/-! ### comparisons -/
/-- the scalars that == tells apart as data does -/
def scal : V → V → Bool
  | .non, .non => true | .non, .int _ => true | .int _, .non => true | .non, .bl _ => true | .bl _, .non => true | .non, .str _ => true | .str _, .non => true
  | .int _, .int _ => true | .bl _, .bl _ => true | .str _, .str _ => true | .byt _, .byt _ => true
  | .int _, .str _ => true | .str _, .int _ => true | .bl _, .str _ => true | .str _, .bl _ => true
  | _, _ => false
def rEq : R2 := fun x y H Q => scal x y = true ∧ Q (.bl (decide (x = y))) H
def rNe : R2 := fun x y H Q => scal x y = true ∧ Q (.bl (!decide (x = y))) H

theorem dec_int {i j : Int} : decide (V.int i = V.int j) = (i == j) := by
  rw [Bool.eq_iff_iff]
  simp
theorem dec_bl {i j : Bool} : decide (V.bl i = V.bl j) = (i == j) := by
  rw [Bool.eq_iff_iff]
  simp
theorem dec_str {i j : Str} : decide (V.str i = V.str j) = (i == j) := by
  rw [Bool.eq_iff_iff]
  simp
theorem dec_byt {i j : Array UInt8} : decide (V.byt i = V.byt j) = (i.toList == j.toList) := by
  rw [Bool.eq_iff_iff]
  cases i
  cases j
  simp

section
variable {X : Cx} {a b c : Expr} {ta tb tc : TE} {pos : Pos}
theorem fin_bl {pins : List (Addr × Obj)} {σ : St} {H : Hp} {s : Shared} {Q : VK} {k k' : Bool} (I : Inv X pins σ H s) (q : Q (.bl k) H) (e : k = k') : EP X pins σ Q (.bool k') s := by
  subst e
  exact ⟨.bl k, H, I, rfl, q⟩
theorem op_eq : OpR X (compareOp .Eq) rEq := by
  intro pins s σ H x y v u Q I rx ry h
  obtain ⟨hs, q⟩ := h
  cases x with
  | non =>
    cases rx
    cases y with
    | non => cases ry; exact PySem.EqNone.eq_none_none (fin_bl I q (by simp))
    | bl j => cases ry; exact PySem.EqNone.eq_none_bool (fin_bl I q (by simp))
    | int j => obtain ⟨t', rfl⟩ := ry; exact PySem.EqNone.eq_none_int (fin_bl I q (by simp))
    | str j => obtain ⟨t', rfl⟩ := ry; exact PySem.EqNone.eq_none_str (fin_bl I q (by simp))
    | _ => exact absurd (show false = true from hs) Bool.false_ne_true
  | bl i =>
    cases rx
    cases y with
    | non => cases ry; exact PySem.EqNone.eq_bool_none (fin_bl I q (by simp))
    | bl j => cases ry; exact eq_bool (fin_bl I q dec_bl)
    | str j => obtain ⟨t', rfl⟩ := ry; exact PySem.EqMixed.eq_bool_str (fin_bl I q (by simp))
    | _ => exact absurd (show false = true from hs) Bool.false_ne_true
  | int i =>
    obtain ⟨t, rfl⟩ := rx
    cases y with
    | non => cases ry; exact PySem.EqNone.eq_int_none (fin_bl I q (by simp))
    | int j => obtain ⟨t', rfl⟩ := ry; exact eq_int (fin_bl I q dec_int)
    | str j => obtain ⟨t', rfl⟩ := ry; exact PySem.EqMixed.eq_int_str (fin_bl I q (by simp))
    | _ => exact absurd (show false = true from hs) Bool.false_ne_true
  | str i =>
    obtain ⟨t, rfl⟩ := rx
    cases y with
    | non => cases ry; exact PySem.EqNone.eq_str_none (fin_bl I q (by simp))
    | bl j => cases ry; exact PySem.EqMixed.eq_str_bool (fin_bl I q (by simp))
    | int j => obtain ⟨t', rfl⟩ := ry; exact PySem.EqMixed.eq_str_int (fin_bl I q (by simp))
    | str j => obtain ⟨t', rfl⟩ := ry; exact eq_str (fin_bl I q dec_str)
    | _ => exact absurd (show false = true from hs) Bool.false_ne_true
  | byt i =>
    obtain ⟨t, rfl⟩ := rx
    cases y with
    | byt j => obtain ⟨t', rfl⟩ := ry; exact PySem.W.eq_bytes (fin_bl I q dec_byt)
    | _ => exact absurd (show false = true from hs) Bool.false_ne_true
  | _ => cases y <;> exact absurd (show false = true from hs) Bool.false_ne_true
theorem op_ne : OpR X (compareOp .NotEq) rNe := by
  intro pins s σ H x y v u Q I rx ry h
  obtain ⟨hs, q⟩ := h
  cases x with
  | non =>
    cases rx
    cases y with
    | non => cases ry; exact PySem.EqNone.ne_none_none (fin_bl I q (by simp))
    | bl j => cases ry; exact PySem.EqNone.ne_none_bool (fin_bl I q (by simp))
    | int j => obtain ⟨t', rfl⟩ := ry; exact PySem.EqNone.ne_none_int (fin_bl I q (by simp))
    | str j => obtain ⟨t', rfl⟩ := ry; exact PySem.EqNone.ne_none_str (fin_bl I q (by simp))
    | _ => exact absurd (show false = true from hs) Bool.false_ne_true
  | bl i =>
    cases rx
    cases y with
    | non => cases ry; exact PySem.EqNone.ne_bool_none (fin_bl I q (by simp))
    | bl j => cases ry; exact ne_bool (fin_bl I q (congrArg not dec_bl))
    | str j => obtain ⟨t', rfl⟩ := ry; exact PySem.EqMixed.ne_bool_str (fin_bl I q (by simp))
    | _ => exact absurd (show false = true from hs) Bool.false_ne_true
  | int i =>
    obtain ⟨t, rfl⟩ := rx
    cases y with
    | non => cases ry; exact PySem.EqNone.ne_int_none (fin_bl I q (by simp))
    | int j => obtain ⟨t', rfl⟩ := ry; exact ne_int (fin_bl I q (congrArg not dec_int))
    | str j => obtain ⟨t', rfl⟩ := ry; exact PySem.EqMixed.ne_int_str (fin_bl I q (by simp))
    | _ => exact absurd (show false = true from hs) Bool.false_ne_true
  | str i =>
    obtain ⟨t, rfl⟩ := rx
    cases y with
    | non => cases ry; exact PySem.EqNone.ne_str_none (fin_bl I q (by simp))
    | bl j => cases ry; exact PySem.EqMixed.ne_str_bool (fin_bl I q (by simp))
    | int j => obtain ⟨t', rfl⟩ := ry; exact PySem.EqMixed.ne_str_int (fin_bl I q (by simp))
    | str j => obtain ⟨t', rfl⟩ := ry; exact ne_str (fin_bl I q (congrArg not dec_str))
    | _ => exact absurd (show false = true from hs) Bool.false_ne_true
  | byt i =>
    obtain ⟨t, rfl⟩ := rx
    cases y with
    | byt j => obtain ⟨t', rfl⟩ := ry; exact PySem.W.ne_bytes (fin_bl I q (congrArg not dec_byt))
    | _ => exact absurd (show false = true from hs) Bool.false_ne_true
  | _ => cases y <;> exact absurd (show false = true from hs) Bool.false_ne_true

theorem op_lt : OpR X (compareOp .Lt) (rI0 fun i j => .bl (decide (i < j))) := opB0 fun _ _ _ _ _ _ _ q => lt_int q
theorem op_gt : OpR X (compareOp .Gt) (rI0 fun i j => .bl (decide (j < i))) := opB0 fun _ _ _ _ _ _ _ q => gt_int q
/-- the one string within the other -/
theorem op_in_str : OpR X (compareOp .In) (fun x y H Q => ∃ i j, x = .str i ∧ y = .str j ∧ Q (.bl (!(Builtin.Str.occurrences j i 0 j.length 1).isEmpty)) H) := by
  intro pins s σ H x y v u Q I rx ry h
  obtain ⟨i, j, rfl, rfl, q⟩ := h
  obtain ⟨t, rfl⟩ := rx
  obtain ⟨t', rfl⟩ := ry
  exact in_str (fin_bl I q rfl)

/-- is None, is not None: the right side a value none -/
theorem op_isN : OpR X (compareOp .Is) (fun x y H Q => y = .non ∧ Q (.bl (decide (x = .non))) H) := by
  intro pins s σ H x y v u Q I rx ry h
  obtain ⟨rfl, q⟩ := h
  cases ry
  refine is_none_gen (fin_bl I q ?_)
  cases x <;> first
    | (cases rx; rfl)
    | (obtain ⟨t, rfl⟩ := rx; rfl)

theorem op_notin_str : OpR X (compareOp .NotIn) (fun x y H Q => ∃ i j, x = .str i ∧ y = .str j ∧ Q (.bl (!(!(Builtin.Str.occurrences j i 0 j.length 1).isEmpty))) H) := by
  intro pins s σ H x y v u Q I rx ry h
  obtain ⟨i, j, rfl, rfl, q⟩ := h
  obtain ⟨t, rfl⟩ := rx
  obtain ⟨t', rfl⟩ := ry
  exact notIn_str (fin_bl I q rfl)


theorem nomark (b : Expr) {op : CmpOp} (h : op ≠ .In := by decide) (h2 : op ≠ .NotIn := by decide) : behindInMarks op b = false := by
  have e1 : (op == CmpOp.In) = false := by cases op <;> first | rfl | exact absurd rfl h
  have e2 : (op == CmpOp.NotIn) = false := by cases op <;> first | rfl | exact absurd rfl h2
  cases b <;> simp [behindInMarks, e1, e2]
/-- a comparison as a value; hm: nomark b, or (for in, not in) by with_unfolding_all rfl -/
theorem pe_cmpR {op : CmpOp} {r : R2} (ho : OpR X (compareOp op) r) (ha : PE X a ta) (hb : PE X b tb) (hm : behindInMarks op b = false) : PE X (.Compare a [op] [b] pos) (tOp r ta tb) := by
  intro pins s σ H Q I h
  exact wpAny_Compare1 (binT ha hb I h fun v u s2 x y H2 I2 rx ry q => ho pins s2 σ H2 x y v u Q I2 rx ry q) hm
/-- a reading of a value as a test -/
def tTest (t : TE) : TT := fun σ H Q => t σ H fun x H' => ∃ k, x = .bl k ∧ Q k H'
theorem pt_cmpR {op : CmpOp} {r : R2} (ho : OpR X (compareOp op) r) (ha : PE X a ta) (hb : PE X b tb) (hm : behindInMarks op b = false) : PT X (.Compare a [op] [b] pos) (tTest (tOp r ta tb)) := by
  intro pins s σ H Q I h
  refine wpAny_isTrue_Compare1 (thn (ha pins s σ H _ I h) fun v s1 ⟨x, H1, I1, r1, q1⟩ => thn (hb pins s1 σ H1 _ I1 q1) fun u s2 ⟨y, H2, I2, r2, q2⟩ =>
    thn (ho pins s2 σ H2 x y v u _ I2 r1 r2 q2) fun c s3 ⟨z, H3, I3, r3, k, e, q3⟩ => ?_) hm
  subst e
  cases r3
  exact wpAny_truthy_bool ⟨H3, I3, q3⟩

/-! ### truth -/
/-- a value's truth by the abstract heap -/
def TruV (K : PySem.W.Frag) (x : V) (H : Hp) (k : Bool) : Prop :=
  match x with
  | .non => k = false
  | .bl b => k = b
  | .int i => k = (i != 0)
  | .str y => y.length ≤ sizeLine ∧ k = ((y.length : Int) != 0)
  | .byt y => y.size ≤ sizeLine ∧ k = ((y.size : Int) != 0)
  | .ref p => (∃ xs, SqL K H p xs ∧ k = !xs.isEmpty) ∨ (∃ xs, SqT K H p xs ∧ k = !xs.isEmpty) ∨ ∃ kvs, H p = some (.dK kvs) ∧ k = !kvs.isEmpty
  | _ => False
theorem isEmpty_kv {κ : Type} {kvs : List (κ × V)} {vs : List (κ × Value)} (r : KV kvs vs) : (!vs.isEmpty) = !kvs.isEmpty := by
  cases r <;> rfl
theorem isEmpty_of {xs : List V} {its : List Value} (r : Vals xs its) : (!its.toArray.isEmpty) = !xs.isEmpty := by
  cases r <;> simp
theorem line63 : (sizeLine : Nat) < 2 ^ 63 := by rw [sizeLine_eq]; decide
theorem tru_ok : TruR X (fun x H Q => ∃ k, TruV X.K x H k ∧ Q k H) := by
  intro pins s σ H x v Q I rx h
  obtain ⟨k, e, q⟩ := h
  have hl := line63
  have hs : sizeLine = 16777216 := sizeLine_eq
  cases x with
  | non =>
    cases rx
    have e' : k = false := e
    subst e'
    exact truthy_none ⟨H, I, q⟩
  | bl b =>
    cases rx
    have e' : k = b := e
    subst e'
    exact wpAny_truthy_bool ⟨H, I, q⟩
  | int i =>
    obtain ⟨t, rfl⟩ := rx
    have e' : k = (i != 0) := e
    subst e'
    exact PySem.P.truthy_int ⟨H, I, q⟩
  | str y =>
    obtain ⟨t, rfl⟩ := rx
    obtain ⟨hy, e'⟩ : y.length ≤ sizeLine ∧ k = ((y.length : Int) != 0) := e
    subst e'
    exact PySem.P.truthy_str (by omega) ⟨H, I.tok _, q⟩
  | byt y =>
    obtain ⟨t, rfl⟩ := rx
    obtain ⟨hy, e'⟩ : y.size ≤ sizeLine ∧ k = ((y.size : Int) != 0) := e
    subst e'
    exact PySem.W.truthy_bytes (by omega) ⟨H, I.tok _, q⟩
  | ref p =>
    cases rx
    have e' : (∃ xs, SqL X.K H p xs ∧ k = !xs.isEmpty) ∨ (∃ xs, SqT X.K H p xs ∧ k = !xs.isEmpty) ∨ ∃ kvs, H p = some (.dK kvs) ∧ k = !kvs.isEmpty := e
    rcases e' with ⟨xs, hx, e'⟩ | ⟨xs, hx, e'⟩ | ⟨kvs, hx, e'⟩
    · subst e'
      obtain ⟨its, r, pl, hz⟩ := I.list hx
      have hlen := r.length
      exact wpAny_truthy_list pl.isList (by simp only [List.size_toArray]; omega) ⟨H, I.tok _, by rw [isEmpty_of r]; exact q⟩
    · subst e'
      obtain ⟨its, r, pl, hz⟩ := I.tuple hx
      have hlen := r.length
      exact truthy_tuple pl (by simp only [List.size_toArray]; omega) ⟨H, I.tok _, by rw [isEmpty_of r]; exact q⟩
    · subst e'
      obtain ⟨hz, hS, vs, r, m⟩ : kvs.length ≤ sizeLine ∧ (p == sysModules) = false ∧ ∃ vs, KV kvs vs ∧ s.heap.DictOf (mixKind X.prog X.w) p vs := I.hok p _ hx
      have hlen : kvs.length = vs.length := Paired.length r
      exact wpAny_truthy_dict hS m (by omega) ⟨H, I.tok _, by rw [isEmpty_kv r]; exact q⟩
  | _ => exact (show False from e).elim

/-! ### strs and bytes -/
theorem op_add_str : OpR X (binaryOp .Add) (fun x y H Q => ∃ i j, x = .str i ∧ y = .str j ∧ i.length + j.length ≤ sizeLine ∧ Q (.str (i ++ j)) H) := by
  intro pins s σ H x y v u Q I rx ry h
  obtain ⟨i, j, rfl, rfl, hz, q⟩ := h
  obtain ⟨t, rfl⟩ := rx
  obtain ⟨t', rfl⟩ := ry
  exact add_str (fun t' tk => ⟨.str (i ++ j), H, I.tok _, ⟨_, rfl⟩, q⟩) hz


/-! ### scalar builtins, by CallR -/
theorem vals1 {x : V} {us : List Value} (r : Vals [x] us) : ∃ u, us = [u] ∧ RelV x u := by
  cases r with
  | cons r1 r2 => cases r2; exact ⟨_, rfl, r1⟩
theorem vals2 {x y : V} {us : List Value} (r : Vals [x, y] us) : ∃ u w', us = [u, w'] ∧ RelV x u ∧ RelV y w' := by
  cases r with
  | cons r1 r2 =>
    cases r2 with
    | cons r3 r4 => cases r4; exact ⟨_, _, rfl, r1, r3⟩
theorem call_abs : CallR X (.builtin "abs") (fun xs H Q => ∃ i, xs = [.int i] ∧ Q (.int (if i < 0 then -i else i)) H) := by
  intro pins s σ H xs us Q I r h
  obtain ⟨i, rfl, q⟩ := h
  obtain ⟨u, rfl, t, rfl⟩ := vals1 r
  exact call_abs_int fun u tk => ⟨.int (if i < 0 then -i else i), H, I.tok _, ⟨_, rfl⟩, q⟩
end
end L2

namespace L2
open PySem PySem.Spec PyProof.Rows

/-! ### an instance, its attributes a map -/
structure ObjM (h : Heap) (x dx C : Addr) (mA : Str → Option Value) : Prop where
  obj : h.get? x = some (PySem.W.instObj C dx)
  ns : h.Ns1 dx mA
  ne : dx ≠ x

theorem lookIn_ns {h : Heap} {dx : Addr} {mA : Str → Option Value} (n : h.Ns1 dx mA) : ∃ od, h.get? dx = some od ∧ ∀ name, PySem.W.lookIn name od = some (mA name) := by
  obtain ⟨o, es, ep, ho, hd, hk, _, hm⟩ := n
  refine ⟨o, ho, fun name => ?_⟩
  have e := hm name
  unfold nsFind findBy at e
  rw [← Array.find?_toList] at e
  unfold PySem.W.lookIn
  rw [hd]
  dsimp only
  split
  · rename_i y q
    rw [q] at e
    exact congrArg some e
  · rename_i q
    rw [q] at e
    have a : es.toList.any (·.refKey) = false := by
      rw [List.any_eq_false]
      intro y hy
      obtain ⟨z, t, hkey⟩ := hk y (Array.mem_toList_iff.mp hy)
      simp [DictEntry.refKey, hkey]
    have a' : ¬ es.toList.any (·.refKey) = true := by rw [a]; exact Bool.false_ne_true
    rw [if_neg a']
    exact congrArg some e

theorem ObjM.look {h : Heap} {x dx C : Addr} {mA : Str → Option Value} (I : ObjM h x dx C mA) : ∃ od, PySem.W.InstAt h x (PySem.W.instObj C dx) C (some od) ∧ ∀ name, PySem.W.lookIn name od = some (mA name) :=
  let ⟨od, ho, hl⟩ := lookIn_ns I.ns
  ⟨od, ⟨I.obj, rfl, rfl, ho⟩, hl⟩

section
variable {prog : Program} {w : World} {A : Around} {E : Value → Shared → Prop} {s : Shared} {K : PySem.W.Frag} {x dx C f : Addr} {mA : Str → Option Value} {name : Str} {v : Value}




theorem set_map {ns : List Str} {Q : Unit → Shared → Prop} (X : K.In s.heap) (I : ObjM s.heap x dx C mA)
    (hs : PySem.W.findIn K (.ref C) "__setattr__" = some (some (.builtin "object.__setattr__"))) (hp : PySem.W.plainOver K C = true) (ht : PySem.W.takerIn K C name = some none) (hh : PySem.W.hasDictIn K C = true)
    (hw : PySem.Within mA ns) (hsz : ns.length ≤ sizeLine)
    (h : ∀ h', ObjM h' x dx C (fun y => if y = name then some v else mA y) → Heap.SameBut dx s.heap h' → Q () { s with heap := h', toks := s.toks + 2 }) :
    wpAny (model prog w) A (setAttr (.ref x) name v) Q E s := by
  obtain ⟨od, J, hl⟩ := I.look
  refine PySem.W.set_plain X J hs (PySem.W.osa_open (s := { s with toks := s.toks + 1 }) (r := none) X J hp ht fun b => ?_)
  obtain ⟨cd, hc, hd'⟩ := PySem.W.any_some hh
  have hx : s.heap.get? x = some ⟨.ref C, some dx, .plain, #[]⟩ := I.obj
  refine wpAny_bind (wpAny_pure (wpAny_bind (wpAny_bind (wpAny_loadPart hx (wpAny_bind (PySem.W.Looks.here (s := { s with toks := s.toks + 1 }) (PySem.W.looks_clsIn X hc) ?_))))))
  rw [hd']
  refine wpAny_pure (a := some dx) (wpAny_bind (wpAny_pure (wpAny_bind ?_)))
  refine wpAny_nsSet1 (s := { s with toks := s.toks + 1 }) I.ns fun h' hn2 hs2 => ?_
  obtain ⟨oD, esD, epD, hoD, hdD, hcD⟩ := hn2.count (PySem.Within.cons name v hw)
  refine wpAny_bind (wpAny_lookBehind hoD (by rw [hdD]; exact pastItsLine_dict (Nat.le_trans hcD (by rw [List.length_cons]; omega))) ?_)
  exact wpAny_pure (h _ ⟨(hs2.2 _ (Ne.symm I.ne)).trans I.obj, hn2, I.ne⟩ hs2)

/-- C(..): the dict at the heap's end, the instance behind it; then its __init__ -/
theorem make_map {R : Result → Shared → Prop} {vs : List Value} {kw : List (Str × Value)} (X : K.In s.heap) (hm : PySem.W.makesIn K C = true)
    (hi : PySem.W.findIn K (.ref C) "__init__" = some (some (.ref f))) (hf : PySem.W.typeIn K (.ref f) = some (.type "function"))
    (h : codeAny (model prog w) (A.under (.builtin "type.__call__" ⟨.ref C :: vs, kw⟩)) (.call (.ref f) ⟨.ref (s.heap.objs.size + 1) :: vs, kw⟩) (PySem.W.InitBack (s.heap.objs.size + 1) R)
      { s with heap := (s.heap.push PySem.W.emptyDict).push (PySem.W.instObj C s.heap.objs.size) }) :
    codeAny (model prog w) A (.call (.ref C) ⟨vs, kw⟩) R s := by
  obtain ⟨hh, g, d, t, os⟩ := s
  exact PySem.W.make_core (PySem.W.makes_of X hm) (PySem.W.looks_findIn X hi) (fun self => PySem.W.bind_fn X self hf) (.inl rfl) h
end

/-! ### the attributes as a list of pairs -/
def putF (f : Str) (v : V) : List (Str × V) → List (Str × V)
  | [] => [(f, v)]
  | (g, x) :: r => if g = f then (g, v) :: r else (g, x) :: putF f v r
theorem lookup_putF (f g : Str) (v : V) : ∀ fs : List (Str × V), (putF f v fs).lookup g = if g = f then some v else fs.lookup g
  | [] => by
    show List.lookup g [(f, v)] = _
    by_cases h : g = f
    · have hb : (g == f) = true := beq_iff_eq.mpr h
      simp only [List.lookup, hb, if_pos h]
    · have hb : (g == f) = false := beq_eq_false_iff_ne.mpr h
      simp only [List.lookup, hb, if_neg h]
  | (k, x) :: r => by
    have ih := lookup_putF f g v r
    rw [show putF f v ((k, x) :: r) = (if k = f then (k, v) :: r else (k, x) :: putF f v r) from rfl]
    by_cases hk : k = f
    · rw [if_pos hk]
      by_cases h : g = k
      · have hb : (g == k) = true := beq_iff_eq.mpr h
        simp only [List.lookup, hb, if_pos (h.trans hk)]
      · have hb : (g == k) = false := beq_eq_false_iff_ne.mpr h
        simp only [List.lookup, hb, if_neg (fun e : g = f => h (e.trans hk.symm))]
    · rw [if_neg hk]
      by_cases h : g = k
      · have hb : (g == k) = true := beq_iff_eq.mpr h
        simp only [List.lookup, hb, if_neg (fun e : g = f => hk (h.symm.trans e))]
      · have hb : (g == k) = false := beq_eq_false_iff_ne.mpr h
        simp only [List.lookup, hb]
        exact ih
theorem keys_putF (f : Str) (v : V) : ∀ fs : List (Str × V), f ∈ (putF f v fs).map (·.1) ∧ ∀ g, g ∈ fs.map (·.1) → g ∈ (putF f v fs).map (·.1)
  | [] => ⟨by simp [putF], fun g h => by simp at h⟩
  | (k, x) :: r => by
    obtain ⟨i1, i2⟩ := keys_putF f v r
    rw [show putF f v ((k, x) :: r) = (if k = f then (k, v) :: r else (k, x) :: putF f v r) from rfl]
    by_cases hk : k = f
    · rw [if_pos hk]
      subst hk
      exact ⟨by simp, fun g h => by simpa using h⟩
    · rw [if_neg hk]
      refine ⟨?_, fun g h => ?_⟩
      · rw [List.map_cons]
        exact List.mem_cons_of_mem _ i1
      · rw [List.map_cons] at h ⊢
        rcases List.mem_cons.mp h with e | e
        · exact List.mem_cons.mpr (.inl e)
        · exact List.mem_cons_of_mem _ (i2 g e)
theorem length_putF (f : Str) (v : V) : ∀ fs : List (Str × V), (putF f v fs).length ≤ fs.length + 1
  | [] => by simp [putF]
  | (k, x) :: r => by
    have ih := length_putF f v r
    rw [show putF f v ((k, x) :: r) = (if k = f then (k, v) :: r else (k, x) :: putF f v r) from rfl]
    by_cases hk : k = f
    · rw [if_pos hk, List.length_cons, List.length_cons]; omega
    · rw [if_neg hk, List.length_cons, List.length_cons]; omega

theorem RelO.some_of {v : V} {o : Option Value} (r : RelO (some v) o) : ∃ u, o = some u ∧ RelV v u := by
  cases o with
  | none => exact (show False from r).elim
  | some u => exact ⟨u, rfl, r⟩
theorem handed_of {v : V} {u : Value} (r : RelV v u) : PySem.W.handedIn u = true := by
  cases v with
  | non => cases (show u = Value.none from r); rfl
  | bl b => cases (show u = Value.bool b from r); rfl
  | int i => obtain ⟨t, e⟩ := (show ∃ t, u = Value.int i t from r); cases e; rfl
  | str x => obtain ⟨t, e⟩ := (show ∃ t, u = Value.str x t from r); cases e; rfl
  | byt b => obtain ⟨t, e⟩ := (show ∃ t, u = Value.bytes b t from r); cases e; rfl
  | flt b => obtain ⟨t, e⟩ := (show ∃ t, u = Value.float b t from r); cases e; rfl
  | ref a => cases (show u = Value.ref a from r); rfl
  | ty n => cases (show u = Value.type n from r); rfl

section
variable {P : Program} {w : World} {H H' : Hp} {h h' : Heap} {a C dx : Addr} {fs fs' : List (Str × V)}
theorem ins_get (hok : HOk P w H h) (e : H a = some (.ins C dx fs)) : ∃ mA, ObjM h a dx C mA ∧ (∀ f, RelO (fs.lookup f) (mA f)) ∧ PySem.Within mA (fs.map (·.1)) ∧ fs.length ≤ 1000 ∧ H dx = some (.own a) := by
  obtain ⟨d, z, ne, ob, mA, n, r, q⟩ := (show ObjOk P w H h a (.ins C dx fs) from hok a _ e)
  exact ⟨mA, ⟨ob, n, ne⟩, r, q, z, d⟩
end

/-! ### what of the text a class must have -/
structure Cls (K : PySem.W.Frag) (C : Addr) : Prop where
  pg : PySem.W.plainGet K C Str.empty = true
  hd : PySem.W.hasDictIn K C = true
  po : PySem.W.plainOver K C = true
  sa : PySem.W.findIn K (.ref C) "__setattr__" = some (some (.builtin "object.__setattr__"))
/-- no class of it has the name -/
def NoAttr (K : PySem.W.Frag) (C : Addr) (f : Str) : Prop := PySem.W.findIn K (.ref C) f = some none
theorem NoAttr.taker {K : PySem.W.Frag} {C : Addr} {f : Str} (n : NoAttr K C f) : PySem.W.takerIn K C f = some none := by
  unfold PySem.W.takerIn
  rw [show PySem.W.findIn K (.ref C) f = some none from n]
  rfl
/-- a constant of the class -/
structure Con (K : PySem.W.Frag) (C : Addr) (f : Str) (v : V) (u : Value) : Prop where
  at_ : PySem.W.findIn K (.ref C) f = some (some u)
  rel : RelV v u
  get : PySem.W.specialIn K u "__get__" = some none
  cp : PySem.W.copiedNames.contains f = false
/-- a method: a plain def of the class or of one above it -/
structure Meth (K : PySem.W.Frag) (C : Addr) (m : Str) (f : Addr) : Prop where
  at_ : PySem.W.findIn K (.ref C) m = some (some (.ref f))
  fn : PySem.W.isFn K (.ref f) = true
  kp : PySem.W.keepIn K (.ref f) = true

section
variable {X : Cx} {pins : List (Addr × Obj)} {σ : St} {H : Hp} {s : Shared} {a C dx : Addr} {fs : List (Str × V)} {f : Str} {v : V} {A : Around} {E : Value → Shared → Prop}




theorem setattr_ok {y : V} {u : Value} {Q : Unit → Shared → Prop} (I : Inv X pins σ H s) (e : H a = some (.ins C dx fs)) (c : Cls X.K C) (n : NoAttr X.K C f) (hl : fs.length < 1000) (ry : RelV y u)
    (h : ∀ s', Inv X pins σ (upd H a (.ins C dx (putF f y fs))) s' → Q () s') : wpAny (model X.prog X.w) A (setAttr (.ref a) f u) Q E s := by
  obtain ⟨mA, O, r, wi, _, ho⟩ := ins_get I.hok e
  have hz : (fs.map (·.1)).length ≤ sizeLine := by rw [List.length_map, sizeLine_eq]; omega
  refine set_map I.kIn O c.sa c.po n.taker c.hd wi hz fun h' O' sb => h _ ?_
  have hd : ∃ o, h'.get? dx = some o := let ⟨o, _, _, e', _⟩ := O'.ns; ⟨o, e'⟩
  refine I.write (x := a) (e := dx) (by rw [e]; exact True.intro) (.inr ho) (fun b q hb z => (sb.2 b hb).trans z) hd ?_
  refine ⟨by rw [upd_ne O.ne]; exact ho, ?_, O.ne, O'.obj, _, O'.ns, fun g => ?_, fun g hg => ?_⟩
  · have := length_putF f y fs; omega
  · show RelO ((putF f y fs).lookup g) (if g = f then some u else mA g)
    rw [lookup_putF]
    by_cases q : g = f
    · rw [if_pos q, if_pos q]; exact ry
    · rw [if_neg q, if_neg q]; exact r g
  · by_cases q : g = f
    · rw [q]; exact (keys_putF f y fs).1
    · refine (keys_putF f y fs).2 g (wi g fun z => hg ?_)
      show (if g = f then some u else mA g) = none
      rw [if_neg q]; exact z

/-- a new instance, tracked, without attributes -/
theorem Inv.made (I : Inv X pins σ H s) : Inv X pins σ (upd (upd H s.heap.objs.size (.own (s.heap.objs.size + 1))) (s.heap.objs.size + 1) (.ins C s.heap.objs.size []))
    { s with heap := (s.heap.push PySem.W.emptyDict).push (PySem.W.instObj C s.heap.objs.size) } := by
  have e1 : (s.heap.push PySem.W.emptyDict).get? s.heap.objs.size = some PySem.W.emptyDict := Heap.get?_push_size s.heap rfl
  have e2 : ((s.heap.push PySem.W.emptyDict).push (PySem.W.instObj C s.heap.objs.size)).get? (s.heap.objs.size + 1) = some (PySem.W.instObj C s.heap.objs.size) := by
    have := Heap.get?_push_size (s.heap.push PySem.W.emptyDict) (o := PySem.W.instObj C s.heap.objs.size) rfl
    rwa [Heap.size_push] at this
  have e3 : (s.heap.push PySem.W.emptyDict).Ns s.heap.objs.size (fun _ => none) := ⟨PySem.W.emptyDict, #[], _, e1, rfl, (fun e he => absurd he (by simp)), fun _ => rfl⟩
  have I1 := I.laid (a := s.heap.objs.size) (o := .own (s.heap.objs.size + 1)) (h' := s.heap.push PySem.W.emptyDict) (t' := s.toks) (fun b u q => Heap.get?_push_of_some _ q) (Nat.le_refl _) ⟨_, e1⟩
  refine I1.laid (a := s.heap.objs.size + 1) (o := .ins C s.heap.objs.size []) (t' := s.toks) (fun b u q => Heap.get?_push_of_some _ q) (Nat.le_of_eq (Heap.size_push _ _)) ?_
  have ne : s.heap.objs.size ≠ s.heap.objs.size + 1 := Nat.ne_of_lt (Nat.lt_succ_self _)
  refine ⟨by rw [upd_ne ne, upd_same], Nat.zero_le _, ne, e2, fun _ => none, (Heap.Ns1.of_empty e3).at fun o q => Heap.get?_push_of_some _ q, fun _ => True.intro, fun y hy => absurd rfl hy⟩

/-- e.f where nothing but the object is asked: through attributeBase (super) and the last hold -/
theorem attr_of {prog : Program} {w : World} {env : Env} {e : Expr} {f : Str} {pos : Pos} {s : Shared} {Q : Value → Shared → Prop} (hb : attributeBase e f env (eval e env) = eval e env)
    (h : wpAny (model prog w) A (eval e env) (fun o s₁ => wpAny (model prog w) A (getAttr o f true) Q E s₁) E s) : wpAny (model prog w) A (eval (.Attribute e f pos) env) Q E s :=
  Attribute_any_ h (by rw [arm_eval_Attribute, hb])
end

/-! ### readings and rules -/
/-- e.f = value -/
def sFld (K : PySem.W.Frag) (ta tv : TE) (f : Str) : TS := fun D σ H => tv σ H fun y H1 => ta σ H1 fun x H2 => ∃ a C dx fs, x = .ref a ∧ H2 a = some (.ins C dx fs) ∧ Cls K C ∧ NoAttr K C f ∧ fs.length < 1000 ∧
  D.nx σ (upd H2 a (.ins C dx (putF f y fs)))

section
variable {X : Cx} {o e value : Expr} {f : Str} {pos pos' tpos : Pos} {ta tv : TE}
theorem ps_fld (ha : PE X o ta) (hv : PE X value tv) (hs : swapsWith value (some (.Attribute o f pos')) pos.line X.env = pure false) : PS X (.Assign [.Attribute o f pos'] value pos) (sFld X.K ta tv f) := by
  intro pins s σ H D I h
  refine plainObj_wpAny_Assign_Attribute (thn (hv pins s σ H _ I h) fun u s1 ⟨y, H1, I1, ry, q⟩ => thn (ha pins s1 σ H1 _ I1 q) fun ov s2 ⟨x, H2, I2, rx, a, C, dx, fs, ex, ea, c, n, l, q2⟩ => ?_) hs
  subst ex
  obtain rfl : ov = Value.ref a := rx
  exact setattr_ok I2 ea c n l ry fun s3 I3 => ⟨σ, _, I3, q2⟩

end

/-! ### isinstance -/
section
variable {X : Cx} {pins : List (Addr × Obj)} {σ : St} {H : Hp} {s : Shared} {A : Around} {E : Value → Shared → Prop} {Q : Value → Shared → Prop} {c : Value} {b : Bool}
/-- the type of a value, as the fragment's deciders take it; for an instance its class -/
inductive TyOf (K : PySem.W.Frag) (H : Hp) : V → Value → Prop where
  | non : TyOf K H .non (.type "NoneType")
  | bl (x : Bool) : TyOf K H (.bl x) (.type "bool")
  | int (i : Int) : TyOf K H (.int i) (.type "int")
  | str (x : Str) : TyOf K H (.str x) (.type "str")
  | flt (x : UInt64) : TyOf K H (.flt x) (.type "float")
  | lst {a : Addr} {xs : List V} (e : H a = some (.lst xs)) : TyOf K H (.ref a) (.type "list")
  | frz {a : Addr} {o : Obj} {xs : List V} (e : H a = some (.frz o (.lst xs))) : TyOf K H (.ref a) (.type "list")
  | tup {a : Addr} {xs : List V} (e : H a = some (.tup xs)) : TyOf K H (.ref a) (.type "tuple")
  | dK {a : Addr} {kvs : List (Key × V)} (e : H a = some (.dK kvs)) : TyOf K H (.ref a) (.type "dict")
  | dT {a : Addr} {kvs : List (List Key × V)} (e : H a = some (.dT kvs)) : TyOf K H (.ref a) (.type "dict")
  | ins {a C dx : Addr} {fs : List (Str × V)} (e : H a = some (.ins C dx fs)) (cl : Cls K C) (ha : PySem.W.findIn K (.ref C) "__class__" = some (some (.builtin "object.__class__")))
      (hn : PySem.W.specialIn K (.builtin "object.__class__") "__get__" = some (some (.builtin "getset_descriptor.__get__"))) (htk : PySem.W.takesIn K (.builtin "object.__class__") = some true)
      (hm : PySem.W.mroIn K C (.type "object") = some true) : TyOf K H (.ref a) (.ref C)
end
end L2

namespace L2
open PySem PySem.Spec PyProof.Rows

/-! ### room -/
structure Room (k : Nat) (A : Around) : Prop where
  hd : A.handled = none
  dp : A.depth + 3 * k + 5 < recursionLimit
  un : A.units + 16 * k + 200 < cLine
theorem Room.mono {j k : Nat} {A : Around} (r : Room k A) (h : j ≤ k) : Room j A := ⟨r.hd, by have := r.dp; omega, by have := r.un; omega⟩
theorem Room.deeper {k : Nat} {A : Around} (r : Room (k + 1) A) (env : Env) : Room k (A.deeper env) :=
  ⟨r.hd, by have := r.dp; show A.depth + 1 + 3 * k + 5 < _; omega, by have := r.un; show A.units + 3 + 16 * k + 200 < _; omega⟩
theorem make_depth {A : Around} {C : Addr} {us : List Value} {kw : List (Str × Value)} : (A.under (.builtin "type.__call__" ⟨.ref C :: us, kw⟩)).depth = A.depth + 1 := by
  first | rfl | simp [Around.under, Code.weight, Code.isCreation, Code.isGuard, Code.isCaller, Code.frames, Code.isFrame, guardIds]
theorem make_units {A : Around} {C : Addr} {us : List Value} {kw : List (Str × Value)} : (A.under (.builtin "type.__call__" ⟨.ref C :: us, kw⟩)).units = A.units + 1 := by
  first | rfl | simp [Around.under, Code.cUnits, Code.frames, Code.isFrame]
theorem Room.make {k : Nat} {A : Around} (r : Room (k + 1) A) (C : Addr) (us : List Value) (kw : List (Str × Value)) : Room k (A.under (.builtin "type.__call__" ⟨.ref C :: us, kw⟩)) :=
  ⟨r.hd, by have := r.dp; rw [make_depth]; omega, by have := r.un; rw [make_units]; omega⟩
theorem Room.depth {k : Nat} {A : Around} (r : Room k A) : A.depth < recursionLimit := by have := r.dp; omega
theorem Room.units {k : Nat} {A : Around} (r : Room k A) : A.units + 64 < cLine := by have := r.un; omega

/-! ### argument lists and displays -/
def tNil : TA := fun _ H Q => Q [] H
def tCons (ta : TE) (tr : TA) : TA := fun σ H Q => ta σ H fun x H1 => tr σ H1 fun xs H2 => Q (x :: xs) H2
section
variable {X : Cx} {e : Expr} {es : List Expr} {te : TE} {t : TA} {pos : Pos}
theorem pa_nil : PA X [] tNil := fun _ _ _ _ H Q I h => Calls.spliced_nil ⟨[], H, I, .nil, h⟩
theorem pa_cons (ha : PE X e te) (hr : PA X es t) (hs : starEach (e :: es) X.env = (false, eval e X.env) :: starEach es X.env := by rfl) : PA X (e :: es) (tCons te t) := by
  intro pos pins s σ H Q I h
  rw [hs]
  show wpAny _ _ (spliced ((false, eval e X.env) :: backTo pos (starEach es X.env))) _ _ s
  refine Calls.spliced_cons (thn (ha pins s σ H _ I h) fun u s1 ⟨x, H1, I1, r1, q1⟩ => ?_)
  exact thn (hr pos pins s1 σ H1 _ I1 q1) fun us s2 ⟨xs, H2, I2, r2, q2⟩ => ⟨x :: xs, H2, I2, .cons r1 r2, q2⟩

/-- a tuple, a list of written items -/
def tTup (t : TA) : TE := fun σ H Q => t σ H fun xs H1 => xs.length ≤ sizeLine ∧ ∀ p, H1 p = none → Q (.ref p) (upd H1 p (.tup xs))
def tLst (t : TA) : TE := fun σ H Q => t σ H fun xs H1 => xs.length ≤ sizeLine ∧ ∀ p, H1 p = none → Q (.ref p) (upd H1 p (.lst xs))
theorem pe_tup {x1} (h : PA X es t) : PE X (.Tuple es x1 pos) (tTup t) := by
  intro pins s σ H Q I hq
  refine wpAny_Tuple_spliced (thn (h pos pins s σ H _ I hq) fun us s1 ⟨xs, H1, I1, r, z, q⟩ => ⟨by rw [← r.length]; exact z, ?_⟩)
  have hf : H1 s1.heap.objs.size = none := I1.hok.fresh (Nat.le_refl _)
  refine ⟨.ref s1.heap.objs.size, upd H1 s1.heap.objs.size (.tup xs), I1.laid (t' := s1.toks) (fun b u e => Heap.get?_push_of_some _ e) (Nat.le_refl _) ?_, rfl, q _ hf⟩
  exact ⟨z, us, r, ⟨_, Heap.get?_push_size _ rfl, rfl, _, rfl⟩⟩
theorem pe_lst (h : PA X es t) : PE X (.List es pos) (tLst t) := by
  intro pins s σ H Q I hq
  refine wpAny_List_spliced (thn (h pos pins s σ H _ I hq) fun us s1 ⟨xs, H1, I1, r, z, q⟩ => ⟨by rw [← r.length]; exact z, ?_⟩)
  have hf : H1 s1.heap.objs.size = none := I1.hok.fresh (Nat.le_refl _)
  refine ⟨.ref s1.heap.objs.size, upd H1 s1.heap.objs.size (.lst xs), I1.laid (t' := s1.toks) (fun b u e => Heap.get?_push_of_some _ e) (Nat.le_refl _) ?_, rfl, q _ hf⟩
  exact ⟨z, us, 0, r, Heap.get?_push_size _ rfl⟩
end

/-! ### what a def promises -/
/-- a def's promise: the bound arguments in the parameters' order, the heap, the wanted end, the wanted exception -/
abbrev Sp := List V → Hp → VK → XK → Prop
/-- how an exception lies behind a call (file 08 gives it): the callers' frames, abstract heap and state ahead of the call, the wish, the exception, the state -/
abbrev CXT := List Env → Hp → Shared → XK → Value → Shared → Prop

/-- the state at a call -/
structure Env0 (P : Program) (w : World) (K : PySem.W.Frag) (mg : Str → Option Value) (base : Heap) (A : Around) (outer : List Env) (s : Shared) (H : Hp) : Prop where
  frames : A.frames = some outer
  mod : Mod K mg base
  bs : ∀ b o, base.get? b = some o → s.heap.get? b = some o ∧ H b = none
  bsz : base.objs.size ≤ s.heap.objs.size
  funs : s.heap.FunFrames base outer
  frf : ∀ b ∈ frs outer, H b = none
  hok : HOk P w H s.heap
  bare : AllBare s.gens
/-- a call's end -/
def CE (outer : List Env) (P : Program) (w : World) (H : Hp) (s : Shared) (Q : VK) (u : Value) (s' : Shared) : Prop :=
  ∃ v H', s'.os = s.os ∧ AllBare s'.gens ∧ Un (frs outer) [] H H' s.heap s'.heap ∧ HOk P w H' s'.heap ∧ RelV v u ∧ Q v H'
def CR (CX : CXT) (outer : List Env) (P : Program) (w : World) (H : Hp) (s : Shared) (Q : VK) (E : XK) (r : Result) (s' : Shared) : Prop :=
  match r with
  | .ok (.ret u) => CE outer P w H s Q u s'
  | .ok _ => False
  | .error e => CX outer H s E e s'
structure FnOk (P : Program) (w : World) (K : PySem.W.Frag) (mg : Str → Option Value) (base : Heap) (CX : CXT) (k : Nat) (f : Addr) (fd : FuncData) (ps : List Str) (sp : Sp) : Prop where
  len : ∀ vs H Q E, sp vs H Q E → vs.length = ps.length
  run : ∀ (A : Around) (outer : List Env) (s : Shared) (H : Hp) (args : Args) (us : List Value) (vs : List V) (Q : VK) (E : XK), Room k A → Env0 P w K mg base A outer s H → BindsTo s fd args (ps.zip us) → Vals vs us → sp vs H Q E →
    codeAny (model P w) A (.call (.ref f) args) (CR CX outer P w H s Q E) s

theorem Env0.make {P : Program} {w : World} {K : PySem.W.Frag} {mg : Str → Option Value} {base : Heap} {A : Around} {outer : List Env} {s : Shared} {H : Hp} (e : Env0 P w K mg base A outer s H) (C : Addr) (us : List Value) (kw : List (Str × Value)) :
    Env0 P w K mg base (A.under (.builtin "type.__call__" ⟨.ref C :: us, kw⟩)) outer s H := ⟨by first | exact e.frames | (simpa [Around.under, Code.envs, Code.isFrame, pushEnvs] using e.frames), e.mod, e.bs, e.bsz, e.funs, e.frf, e.hok, e.bare⟩

section
variable {X : Cx} {pins : List (Addr × Obj)} {σ : St} {H : Hp} {s s' : Shared}
/-- from a body: what a callee wants -/
theorem Inv.env0 (I : Inv X pins σ H s) : Env0 X.prog X.w X.K X.mg X.base X.A X.stack s H :=
  ⟨I.ok.frames, I.ok.mod, I.bs, Nat.le_trans I.ok.bsz I.sz, I.stack, I.stkFree, I.hok, I.bare⟩
/-- behind a call -/
theorem Inv.after {Q : VK} {u : Value} (I : Inv X pins σ H s) (h : CE X.stack X.prog X.w H s Q u s') : EP X pins σ Q u s' := by
  obtain ⟨v, H', os, bare, un, hok, r, q⟩ := h
  obtain ⟨hh, g, d, t, os'⟩ := s'
  obtain rfl : os' = s.os := os
  exact ⟨v, H', I.call (h' := hh) (g' := g) (d' := d) (t' := t) (ch := []) un hok bare (fun b z => absurd z (by simp)), r, q⟩
end

/-! ### calls -/
/-- f(..): the written arguments, then the defaults dvs; E: what is wanted of an exception -/
def tCall (sp : Sp) (dvs : List V) (E : XK) (t : TA) : TE := fun σ H Q => t σ H fun vs H1 => sp (vs ++ dvs) H1 Q E
/-- C(..): a new instance and its dict, then __init__ -/
def tMake (C : Addr) (sp : Sp) (dvs : List V) (E : XK) (t : TA) : TE := fun σ H Q => t σ H fun vs H1 => ∀ x dx, H1 x = none → H1 dx = none → dx ≠ x →
  sp (.ref x :: (vs ++ dvs)) (upd (upd H1 dx (.own x)) x (.ins C dx [])) (fun v H2 => v = .non ∧ Q (.ref x) H2) E

/-- how the parameters are bound: us the positional arguments, kw the keywords' values by name, ds the defaults that fill up -/
def Binds (K : PySem.W.Frag) (fd : FuncData) (ps : List Str) (ds : List Value) : Prop :=
  ∀ (s : Shared) (us : List Value), K.In s.heap → (us ++ ds).length = ps.length → BindsTo s fd ⟨us, []⟩ (ps.zip (us ++ ds))
/-- every parameter is given -/
theorem Binds.all {K : PySem.W.Frag} {fd : FuncData} {ps : List Str} (h : ∀ us : List Value, us.length = ps.length → bindArgs fd ⟨us, []⟩ = pure (ps.zip us)) : Binds K fd ps [] := fun s us _ hl => by
  rw [List.append_nil] at hl ⊢
  exact .of_eq (h us hl)

/-- an exception of a callee reaches what this body wants of exceptions -/
def Passes (CX : CXT) (X : Cx) (E : XK) : Prop := ∀ (pins : List (Addr × Obj)) (σ : St) (H : Hp) (s : Shared) (e : Value) (s' : Shared), Inv X pins σ H s → CX X.stack H s E e s' → X.xe e s'

section
variable {X : Cx} {CX : CXT} {k : Nat} {f C : Addr} {fd : FuncData} {ps : List Str} {sp : Sp} {dvs : List V} {ds : List Value} {E : XK} {x m : Str} {p pos apos : Pos} {e o : Expr} {es : List Expr} {ta : TE} {t : TA}

/-- the callee runs -/
theorem run_fn {pins : List (Addr × Obj)} {σ : St} {H : Hp} {s : Shared} {Q : VK} {us : List Value} {vs : List V} (F : FnOk X.prog X.w X.K X.mg X.base CX k f fd ps sp) (hr : Room k X.A) (hb : Binds X.K fd ps ds) (hd : Vals dvs ds) (hx : Passes CX X E)
    (I : Inv X pins σ H s) (r : Vals vs us) (h : sp (vs ++ dvs) H Q E) : wpAny (model X.prog X.w) X.A (call (.ref f) us) (EP X pins σ Q) X.xe s := by
  have r2 : Vals (vs ++ dvs) (us ++ ds) := r.append hd
  have hl : (us ++ ds).length = ps.length := by rw [← r2.length]; exact F.len _ _ _ _ h
  refine wpAny_call (codeAny_mono (F.run X.A X.stack s H ⟨us, []⟩ (us ++ ds) (vs ++ dvs) Q E hr I.env0 (hb s us I.kIn hl) r2 h) fun r s' hq => ?_)
  cases r with
  | error e => exact hx pins σ H s e s' I hq
  | ok fl =>
    cases fl with
    | ret u => exact I.after hq
    | next => exact False.elim hq
    | brk => exact False.elim hq
    | cont => exact False.elim hq

theorem pe_call (F : FnOk X.prog X.w X.K X.mg X.base CX k f fd ps sp) (hr : Room k X.A) (hg : Gl X x) (hm : X.mg x = some (.ref f)) (hk : PySem.W.keepIn X.K (.ref f) = true) (hb : Binds X.K fd ps ds) (hd : Vals dvs ds) (hx : Passes CX X E)
    (ha : PA X (e :: es) t) (hdb : (x == ("__debug__" : Str)) = false := by decide) (he : starEach (e :: es) X.env = (false, eval e X.env) :: starEach es X.env := by rfl) (hpl : (backTo pos (starEach es X.env)).any (·.1) = false := by rfl) :
    PE X (.Call (.Name x p) (e :: es) [] pos) (tCall sp dvs E t) := by
  intro pins s σ H Q I h
  refine wpAny_Call_Name_kw (ld_glob I hg hm ?_ hdb)
  refine PySem.W.callWith_K (h₀ := X.base) I.ok.mod.kin hk (thn (ha pos pins s σ H _ I h) fun us s1 ⟨vs, H1, I1, r, q⟩ => ⟨I1.kIn, ?_⟩) he hpl
  exact run_fn F hr hb hd hx I1 r q


/-- what a class must have to be made -/
structure Mk (K : PySem.W.Frag) (C f : Addr) : Prop where
  makes : PySem.W.makesIn K C = true
  init : PySem.W.findIn K (.ref C) "__init__" = some (some (.ref f))
  fn : PySem.W.isFn K (.ref f) = true
  kp : PySem.W.keepIn K (.ref C) = true

end

/-! ### keywords -/
section
variable {X : Cx} {CX : CXT} {k : Nat} {f C : Addr} {fd : FuncData} {ps ks : List Str} {sp : Sp} {E : XK} {x m : Str} {p pos apos kpos : Pos} {e o : Expr} {es : List Expr} {kws : List Keyword} {te ta : TE} {t tk : TA} {nm : Option Str}

/-- how a call with keywords binds: g puts the positional values us and the keywords' values ws (names ks) in the parameters' order, defaults among them -/
structure KBinds (K : PySem.W.Frag) (fd : FuncData) (ps ks : List Str) (g : List Value → List Value → List Value) (gV : List V → List V → List V) : Prop where
  to : ∀ (s : Shared) (us ws : List Value), K.In s.heap → (g us ws).length = ps.length → BindsTo s fd ⟨us, ks.zip ws⟩ (ps.zip (g us ws))
  rel : ∀ {vs : List V} {us : List Value} {zs : List V} {ws : List Value}, Vals vs us → Vals zs ws → Vals (gV vs zs) (g us ws)
variable {g : List Value → List Value → List Value} {gV : List V → List V → List V}
end

/-! ### a def's body keeps its promise -/
/-- names: the parameters first -/
structure FnScope (N P : List Str) (sc : Scope) : Prop where
  kind : sc.kind = .function
  co : sc.isCoroutine = false
  gen : sc.isGenerator = false
  nd : N.Nodup
  pre : N.take P.length = P
  par : ∀ x ∈ P, sc.names.lookup x = some .local ∨ sc.names.lookup x = some .cell
  nofree : ∀ y ∈ sc.names, y.2 ≠ .free

theorem bindL_out {kindOf : Str → Option NameKind} {x : Str} : ∀ {binds : List (Str × Value)} {m : Str → Option Value}, (∀ v, (x, v) ∉ binds) → bindL kindOf binds m x = m x
  | [], _, _ => rfl
  | (n, v) :: r, m, h => by
    unfold bindL
    rw [bindL_out fun w hw => h w (List.mem_cons_of_mem _ hw)]
    split
    · have : x ≠ n := by rintro rfl; exact h v List.mem_cons_self
      simp [this]
    · rfl
theorem bindC_out {kindOf : Str → Option NameKind} {x : Str} : ∀ {binds : List (Str × Value)} {m : Str → Option Value}, (∀ v, (x, v) ∉ binds) → bindC kindOf binds m x = m x
  | [], _, _ => rfl
  | (n, v) :: r, m, h => by
    unfold bindC
    rw [bindC_out fun w hw => h w (List.mem_cons_of_mem _ hw)]
    split
    · rfl
    · have : x ≠ n := by rintro rfl; exact h v List.mem_cons_self
      simp [this]
theorem bindL_get {kindOf : Str → Option NameKind} {x : Str} {v : Value} : ∀ {P : List Str} {vs : List Value} {i : Nat} {m : Str → Option Value}, P.Nodup → P[i]? = some x → vs[i]? = some v → kindOf x = some .local →
    bindL kindOf (P.zip vs) m x = some v
  | [], _, _, _, _, h, _, _ => by simp at h
  | _ :: _, [], _, _, _, _, h, _ => by simp at h
  | p :: P, w :: vs, 0, m, nd, h1, h2, hk => by
    simp at h1 h2; subst h1; subst h2
    show bindL kindOf ((p, w) :: P.zip vs) m p = _
    unfold bindL
    rw [bindL_out fun v hv => (List.nodup_cons.mp nd).1 (List.of_mem_zip hv).1, if_pos hk]
    simp
  | p :: P, w :: vs, i + 1, m, nd, h1, h2, hk => by
    show bindL kindOf ((p, w) :: P.zip vs) m x = _
    unfold bindL
    exact bindL_get (i := i) (List.nodup_cons.mp nd).2 (by simpa using h1) (by simpa using h2) hk
theorem bindC_get {kindOf : Str → Option NameKind} {x : Str} {v : Value} : ∀ {P : List Str} {vs : List Value} {i : Nat} {m : Str → Option Value}, P.Nodup → P[i]? = some x → vs[i]? = some v → kindOf x ≠ some .local →
    bindC kindOf (P.zip vs) m x = some v
  | [], _, _, _, _, h, _, _ => by simp at h
  | _ :: _, [], _, _, _, _, h, _ => by simp at h
  | p :: P, w :: vs, 0, m, nd, h1, h2, hk => by
    simp at h1 h2; subst h1; subst h2
    show bindC kindOf ((p, w) :: P.zip vs) m p = _
    unfold bindC
    rw [bindC_out fun v hv => (List.nodup_cons.mp nd).1 (List.of_mem_zip hv).1, if_neg hk]
    simp
  | p :: P, w :: vs, i + 1, m, nd, h1, h2, hk => by
    show bindC kindOf ((p, w) :: P.zip vs) m x = _
    unfold bindC
    exact bindC_get (i := i) (List.nodup_cons.mp nd).2 (by simpa using h1) (by simpa using h2) hk

/-- the names' values at the entry -/
def start (N : List Str) (vs : List V) : St := vs.map some ++ List.replicate (N.length - vs.length) none

/-- the context of a def's body, at its entry; an exception leaves the frame, then lies as CX says -/
def cxOf (CX : CXT) (P : Program) (w : World) (K : PySem.W.Frag) (mg : Str → Option Value) (base : Heap) (N : List Str) (qual : Str) (scope : Scope) (f : Addr) (cd : Value) (A : Around) (outer : List Env) (s : Shared) (H : Hp) (E : XK) : Cx where
  prog := P
  w := w
  K := K
  mg := mg
  base := base
  A := A.deeper (envOfC qual scope s.heap.objs.size f cd)
  N := N
  s₀ := s
  H₀ := H
  env := envOfC qual scope s.heap.objs.size f cd
  outer := outer
  stack := envOfC qual scope s.heap.objs.size f cd :: outer
  ex := []
  calm := true
  fn := fun _ => true
  pn := []
  xe := fun e s' => wpAny (model P w) (A.deeper (envOfC qual scope s.heap.objs.size f cd)) (leaving (envOfC qual scope s.heap.objs.size f cd) e) (fun _ s'' => CX outer H s E e s'') (fun e' s'' => CX outer H s E e' s'') s'

theorem cell_has {sc : Scope} {n : Nat} {x : Str} (h : sc.names.lookup x = some .cell) : ∃ c, (cellsFrom n sc.names []).lookup x = some c := by
  have q := PySem.W.cellsFrom_some sc.names n [] (.inl h)
  exact Option.isSome_iff_exists.mp q

theorem inv_start {CX : CXT} {P : Program} {w : World} {K : PySem.W.Frag} {mg : Str → Option Value} {base : Heap} {N ps : List Str} {qual : Str} {scope : Scope} {f : Addr} {cd : Value} {A : Around} {outer : List Env} {s s1 : Shared} {H : Hp} {E : XK} {us : List Value} {vs : List V}
    (S : FnScope N ps scope) (hd : A.handled = none) (e0 : Env0 P w K mg base A outer s H) (hl : vs.length = ps.length) (r : Vals vs us)
    (x : InCallC s s.heap.objs.size (bindL (envOfC qual scope s.heap.objs.size f cd).kindOf (ps.zip us) fun _ => none) (cellsFrom (s.heap.objs.size + 1) scope.names []) (bindC (envOfC qual scope s.heap.objs.size f cd).kindOf (ps.zip us) fun _ => none) s1) :
    Inv (cxOf CX P w K mg base N qual scope f cd A outer s H E) [] (start N vs) H s1 := by
  have hpl : ps.length ≤ N.length := by have := congrArg List.length S.pre; rw [List.length_take] at this; omega
  obtain ⟨h1, tk, rfl, hk⟩ := x.done
  have noA : ∀ b : Addr, b ∉ (cxOf CX P w K mg base N qual scope f cd A outer s H E).ex := fun b z => absurd (show b ∈ ([] : List Addr) from z) (by simp)
  refine ⟨⟨e0.mod, S.kind, rfl, rfl, Nat.le_refl _, fun y z c h1 h2 => ?_, fun y hy => ?_, fun y c _ h => ?_, fun _ => hd, Around.frames_deeper e0.frames, .inr ⟨rfl, rfl⟩, fun b z => absurd z (noA b), e0.bs, e0.bsz, fun b _ _ => noA b, fun b z => absurd z (noA b), e0.funs, e0.frf⟩,
    rfl, e0.bare, Un.kept hk, ⟨_, x.toInCall.ns, fun i y v h1 h2 h3 => ?_⟩, fun y c h => ⟨_, x.cell y c h⟩, e0.hok.fresh (Nat.le_refl _), fun y c h => ?_, fun p hp => absurd (show p ∈ ([] : List (Addr × Obj)) from hp) (by simp), e0.hok.kept hk, ?_⟩
  · exact name_of_addr x.apart (PySem.mem_of_lookup h1) (PySem.mem_of_lookup h2)
  · have hy : scope.names.lookup y = some .cell ∨ scope.names.lookup y = some .free := hy
    rcases hy with hy | hy
    · exact cell_has hy
    · exact absurd rfl (S.nofree _ (PySem.mem_of_lookup hy))
  · exact Nat.le_of_lt (x.above y c (PySem.mem_of_lookup h))
  · have hi : i < vs.length := by
      unfold start at h2
      by_cases hi : i < vs.length
      · exact hi
      · rw [List.getElem?_append_right (by simpa using hi)] at h2
        rw [List.getElem?_replicate] at h2
        split at h2 <;> cases h2
    have ha : vs[i]? = some v := by
      unfold start at h2
      rw [List.getElem?_append_left (by simpa using hi), List.getElem?_map] at h2
      cases e : vs[i]? with
      | none => rw [e] at h2; cases h2
      | some a => rw [e] at h2; cases h2; rfl
    obtain ⟨u, hu, rv⟩ := r.get ha
    have hp : ps[i]? = some y := by
      rw [← S.pre, List.getElem?_take_of_lt (by omega)]; exact h1
    have ndP : ps.Nodup := by rw [← S.pre]; exact S.nd.sublist (List.take_sublist _ _)
    refine ⟨u, rv, ?_⟩
    rcases S.par y (List.mem_of_getElem? hp) with k | k
    · exact .inl ⟨k, bindL_get ndP hp hu k⟩
    · obtain ⟨c, e⟩ := cell_has (n := s.heap.objs.size + 1) k
      refine .inr ⟨.inl k, c, e, ?_⟩
      have q := x.cell y c e
      rw [bindC_get ndP hp hu (by show scope.names.lookup y ≠ _; rw [k]; decide)] at q
      exact q
  · exact e0.hok.fresh (Nat.le_of_lt (x.above y c (PySem.mem_of_lookup h)))
  · unfold start
    show _ = N.length
    rw [List.length_append, List.length_map, List.length_replicate]
    omega

/-- THE RULE: a def (or a method) of the text, by its body. The body's reading t is chosen for each entry; it is run at the parameters' values -/
theorem fn_of {CX : CXT} {P : Program} {w : World} {K : PySem.W.Frag} {mg : Str → Option Value} {base : Heap} {k : Nat} {f : Addr} {name qual : Str} {params : Arguments} {body : List Stmt} {scope : Scope} {dV kV doc pm cdv ct oc : Value} {an od : Option Addr}
    {osl : Array (Option Value)} {N ps : List Str} {sp : Sp} (lk : K.lookup f = some ⟨oc, od, .func (PySem.W.fnOf name qual params body scope dV kV doc pm an cdv ct), osl⟩) (hcd : PySem.W.codeIn K cdv qual = true) (S : FnScope N ps scope)
    (len : ∀ vs H Q E, sp vs H Q E → vs.length = ps.length)
    (hbody : ∀ (A : Around) (outer : List Env) (s : Shared) (H : Hp) (vs : List V) (Q : VK) (E : XK), Room k (A.deeper (envOfC qual scope s.heap.objs.size f cdv)) → sp vs H Q E →
      ∃ t, PSs (cxOf CX P w K mg base N qual scope f cdv A outer s H E) body t ∧ t { nx := fun _ H' => Q .non H', rt := Q } (start N vs) H) :
    FnOk P w K mg base CX (k + 1) f (PySem.W.fnOf name qual params body scope dV kV doc pm an cdv ct) ps sp := by
  refine ⟨len, fun A outer s H args us vs Q E hr e0 hb r hsp => ?_⟩
  have hl := len _ _ _ _ hsp
  have KX : K.In s.heap := e0.mod.kin.keeps fun b o e => (e0.bs b o e).1
  have lim : s.heap.NoLimit := e0.mod.nolimit.keeps fun b o e => (e0.bs b o e).1
  have hkind : ∀ y ∈ ps.zip us, scope.names.lookup y.1 = some .local ∨ (scope.names.lookup y.1 = some .cell ∧ ((cellsFrom (s.heap.objs.size + 1) scope.names []).lookup y.1).isSome = true) := fun ⟨n, v⟩ hy => by
    rcases S.par n (List.of_mem_zip hy).1 with q | q
    · exact .inl q
    · exact .inr ⟨q, PySem.W.cellsFrom_some _ _ _ (.inl q)⟩
  refine codeAny_call_function hr.depth (KX _ _ lk) rfl S.co S.gen rfl (PySem.W.codeRec_of KX hcd) (hb _ _ _ _ ?_)
  refine wpAny_newFunctionEnv_cells S.kind hkind fun env he s1 x => ?_
  subst he
  refine ⟨lim.keeps x.toInCall.keep, codeAny_func ?_⟩
  obtain ⟨t, ht, hq⟩ := hbody A outer s H vs Q E (hr.deeper _) hsp
  have I : Inv (cxOf CX P w K mg base N qual scope f cdv A outer s H E) [] (start N vs) H s1 := inv_start S hr.hd e0 hl r x
  refine wpAny_mono (ht [] s1 (start N vs) H _ I hq) (fun fl s' hs => ?_) fun e s' hs => hs
  have fin : ∀ {σ' : St} {H' : Hp} {v : V} {u : Value}, Inv (cxOf CX P w K mg base N qual scope f cdv A outer s H E) [] σ' H' s' → RelV v u → Q v H' → CE outer P w H s Q u s' :=
    fun {σ' H' v u} J rv q => ⟨v, H', J.os, J.bare, J.base, J.hok, rv, q⟩
  cases fl with
  | ret u =>
    obtain ⟨v, σ', H', J, rv, q⟩ := hs
    exact fin J rv q
  | next =>
    obtain ⟨σ', H', J, q⟩ := hs
    exact fin (v := V.non) (u := Value.none) J rfl q
  | brk =>
    obtain ⟨_, _, _, q⟩ := hs
    exact False.elim q
  | cont =>
    obtain ⟨_, _, _, q⟩ := hs
    exact False.elim q
end L2

namespace L2
open PySem PySem.Spec PyProof.Rows
section
variable {X : Cx} {x : Str} {p pos : Pos} {e : Expr} {es : List Expr} {t : TA} {id T : String} {r : List V → Hp → VK → Prop}

def tCB (r : List V → Hp → VK → Prop) (t : TA) : TE := fun σ H Q => t σ H fun vs H1 => r vs H1 Q
/-- f(e, ..), f a built-in function -/
theorem pe_callB (hc : CallR X (.builtin id) r) (hg : Gl X x) (hm : X.mg x = none) (hv : bootBuiltins x = some (.builtin id)) (ha : PA X (e :: es) t) (hn : x ≠ "__name__" := by decide) (hdb : (x == ("__debug__" : Str)) = false := by decide)
    (he : starEach (e :: es) X.env = (false, eval e X.env) :: starEach es X.env := by rfl) (hpl : (backTo pos (starEach es X.env)).any (·.1) = false := by rfl) : PE X (.Call (.Name x p) (e :: es) [] pos) (tCB r t) := by
  intro pins s σ H Q I h
  refine wpAny_Call_Name_kw (ld_blt I hg hm hv ?_ hn hdb)
  exact PyProof.Rows.callWith_builtin1 (thn (ha pos pins s σ H _ I h) fun us s1 ⟨vs, H1, I1, r1, q1⟩ => hc pins s1 σ H1 vs us Q I1 r1 q1) he hpl
/-- T(e, ..), T a built-in type -/
theorem pe_callTy (hc : CallR X (.type T) r) (hg : Gl X x) (hm : X.mg x = none) (hv : bootBuiltins x = some (.type T)) (ha : PA X (e :: es) t) (hn : x ≠ "__name__" := by decide) (hdb : (x == ("__debug__" : Str)) = false := by decide)
    (he : starEach (e :: es) X.env = (false, eval e X.env) :: starEach es X.env := by rfl) (hpl : (backTo pos (starEach es X.env)).any (·.1) = false := by rfl) : PE X (.Call (.Name x p) (e :: es) [] pos) (tCB r t) := by
  intro pins s σ H Q I h
  refine wpAny_Call_Name_kw (ld_blt I hg hm hv ?_ hn hdb)
  exact PyProof.Rows.callWith_type1 (thn (ha pos pins s σ H _ I h) fun us s1 ⟨vs, H1, I1, r1, q1⟩ => hc pins s1 σ H1 vs us Q I1 r1 q1) he hpl
end
end L2

namespace HT
open PySem PyProof.Rows



section
open PySem.SeqAt
open PySem.AutoSeq1 (wpAny_loadPart')
open PySem.MeetsSeq PySem.MeetsSeq2 PySem.MeetsSeq3

end

section
variable {prog : Program} {w : World} {A : Around} {E : Value → Shared → Prop} {s : Shared}


/-- t + u, t not empty -/
theorem cat_tup {t b : Addr} {vs ws : List Value} {Q : Value → Shared → Prop} (ht : IsTup s.heap t vs.toArray) (hb : IsTup s.heap b ws.toArray) (hv : vs ≠ [])
    (h1 : ws = [] → Q (.ref t) s) (h2 : ws ≠ [] → Q (.ref s.heap.objs.size) { s with heap := s.heap.push { cls := .type "tuple", data := .seq (vs ++ ws).toArray } })
    (hsz : vs.length + ws.length ≤ sizeLine) : wpAny (model prog w) A (binaryOp .Add (.ref t) (.ref b)) Q E s := by
  obtain ⟨⟨cls, dd, data, sl⟩, ho, hc, n, hd⟩ := id ht
  obtain ⟨⟨cls2, dd2, data2, sl2⟩, ho2, hc2, n2, hd2⟩ := id hb
  simp only at hc hd hc2 hd2
  subst hc hd hc2 hd2
  have e : vs.toArray ++ ws.toArray = (vs ++ ws).toArray := by simp
  by_cases hw : ws = []
  · exact concat_meets ⟨_, ho, rfl⟩ ⟨_, ho2, rfl⟩ noFill_tuple_add seq_tuple_add PySem.F.slot_tuple_add PySem.F.entry_tuple_add (PySem.F.args_tuple_add_2 _ _)
      (tuple_addW1 t b vs.toArray ws.toArray n n2 dd dd2 sl sl2 (by simpa using hv) (by simp [hw])) ⟨ho, ho2, h1 hw⟩
  · refine concat_meets ⟨_, ho, rfl⟩ ⟨_, ho2, rfl⟩ noFill_tuple_add seq_tuple_add PySem.F.slot_tuple_add PySem.F.entry_tuple_add (PySem.F.args_tuple_add_2 _ _)
      (tuple_addW2 t b vs.toArray ws.toArray n n2 dd dd2 sl sl2 (by simpa using hv) (by simpa using hw) (by rw [List.size_toArray, List.size_toArray]; exact hsz)) ⟨ho, ho2, ?_⟩
    rw [e]
    exact h2 hw

/-! ### t[a:b], not the whole -/
/-- a slice's bound as a place among n (d where it is left out) -/
def sIx (n d : Nat) : Option Int → Nat
  | none => d
  | some v => if v < 0 then (v + (n : Int)).toNat else min v.toNat n
theorem sIx_le (n d : Nat) (hd : d ≤ n) (o : Option Int) : sIx n d o ≤ n := by
  cases o with
  | none => exact hd
  | some v =>
    show (if v < 0 then (v + (n : Int)).toNat else min v.toNat n) ≤ n
    by_cases hv : v < 0
    · rw [if_pos hv]; omega
    · rw [if_neg hv]; exact Nat.min_le_right _ _
theorem clip_eq (v : Int) (n d : Nat) : (if v < 0 then max (v + (n : Int)) 0 else min v (n : Int)) = ((sIx n d (some v) : Nat) : Int) := by
  show (if v < 0 then max (v + (n : Int)) 0 else min v (n : Int)) = (((if v < 0 then (v + (n : Int)).toNat else min v.toNat n) : Nat) : Int)
  by_cases hv : v < 0
  · simp only [if_pos hv]; omega
  · simp only [if_neg hv]; omega
theorem adjust_gen (lo hi : Option Int) (n : Nat) : Builtin.Slice.sliceAdjust lo hi 1 (n : Int) = (((sIx n 0 lo : Nat) : Int), ((sIx n n hi : Nat) : Int)) := by
  have h1 : ¬ ((1 : Int) < 0) := by omega
  unfold Builtin.Slice.sliceAdjust
  simp only [h1, if_false]
  refine Prod.ext ?_ ?_
  · cases lo with
    | none => rfl
    | some v => exact clip_eq v n 0
  · cases hi with
    | none => rfl
    | some v => exact clip_eq v n n
theorem places_gen (i j : Nat) : Builtin.Slice.slicePlaces (i : Int) (j : Int) 1 = j - i := by
  unfold Builtin.Slice.slicePlaces
  have h1 : (1 : Int) > 0 := by omega
  simp only [h1, if_true, Int.ediv_one]
  split <;> omega
theorem slicePart_ {v : Value} {o : Option Int} {Q : Option Int → Shared → Prop} (p : IsPart v o) (h : Q o s) : wpAny (model prog w) A (Builtin.Slice.slicePartIndex v) Q E s := by
  cases p with
  | none => exact slicePart_none h
  | int i t => exact slicePart_int h
theorem sliceApplied_gen {sl : Addr} {vl vu : Value} {lo hi : Option Int} {n : Nat} {Q : Int × Int × Nat → Shared → Prop} (hs : s.heap.IsSliceOf sl vl vu .none) (pl : IsPart vl lo) (pu : IsPart vu hi)
    (h : Q (((sIx n 0 lo : Nat) : Int), 1, sIx n n hi - sIx n 0 lo) s) : wpAny (model prog w) A (Builtin.Slice.sliceApplied (.ref sl) (pure (n : Int))) Q E s := by
  obtain ⟨os, hos, hcs, hds⟩ := id hs
  unfold Builtin.Slice.sliceApplied Builtin.Slice.sliceFields
  refine wpAny_bind (wpAny_bind (wpAny_field hos hds (x := vl) rfl (wpAny_bind (wpAny_field hos hds (x := vu) rfl (wpAny_bind (wpAny_field hos hds (x := .none) rfl (wpAny_pure ?_)))))))
  refine wpAny_bind (slicePart_none ?_)
  show wpAny _ _ (if ((1 : Int) == 0) = true then _ else _) _ _ s
  rw [if_neg (by decide)]
  refine wpAny_bind (slicePart_ pl (wpAny_bind (slicePart_ pu (wpAny_bind (wpAny_pure ?_)))))
  show wpAny _ _ (match Builtin.Slice.sliceAdjust lo hi 1 (n : Int) with | (lo, hi) => pure (lo, (1 : Int), Builtin.Slice.slicePlaces lo hi 1)) _ _ s
  rw [adjust_gen lo hi n]
  show wpAny _ _ (pure (((sIx n 0 lo : Nat) : Int), (1 : Int), Builtin.Slice.slicePlaces ((sIx n 0 lo : Nat) : Int) ((sIx n n hi : Nat) : Int) 1)) _ _ s
  rw [places_gen]
  exact wpAny_pure h
theorem pick_gen (xs : Array Value) (i k : Nat) : ((List.range k).filterMap fun (m : Nat) => xs[((i : Int) + (m : Int) * 1).toNat]?).toArray = ((xs.toList.drop i).take k).toArray := by
  have e : (fun (m : Nat) => xs[((i : Int) + (m : Int) * 1).toNat]?) = fun m => xs[i + m]? := by
    funext m
    have : ((i : Int) + (m : Int) * 1).toNat = i + m := by omega
    rw [this]
  rw [e]
  have := pick_run xs i k
  rw [List.filterMap_map] at this
  have e2 : ((fun x => xs[x]?) ∘ fun x => i + x) = fun m => xs[i + m]? := rfl
  rw [e2] at this
  rw [this]

theorem getItem_tuple_cut {t sl : Addr} {items : Array Value} {vl vu : Value} {lo hi : Option Int} {Q : Value → Shared → Prop} (ht : IsTup s.heap t items) (hs : s.heap.IsSliceOf sl vl vu .none) (pl : IsPart vl lo) (pu : IsPart vu hi)
    (hw : ¬ (sIx items.size 0 lo = 0 ∧ sIx items.size items.size hi = items.size))
    (h : Q (.ref s.heap.objs.size) { s with heap := s.heap.push { cls := .type "tuple", data := .seq ((items.toList.drop (sIx items.size 0 lo)).take (sIx items.size items.size hi - sIx items.size 0 lo)).toArray } })
    (hsz : items.size ≤ sizeLine) : wpAny (model prog w) A (getItem (.ref t) (.ref sl)) Q E s := by
  have htake : sizeOk (.seq ((items.toList.drop (sIx items.size 0 lo)).take (sIx items.size items.size hi - sIx items.size 0 lo)).toArray) := by
    show ((items.toList.drop (sIx items.size 0 lo)).take (sIx items.size items.size hi - sIx items.size 0 lo)).toArray.size ≤ sizeLine
    rw [List.size_toArray, List.length_take, List.length_drop, Array.length_toList]
    omega
  have hj : sIx items.size items.size hi ≤ items.size := sIx_le _ _ (Nat.le_refl _) hi
  obtain ⟨os, hos, hcs, hds⟩ := id hs
  have hTs : s.TypeIs (.ref sl) "slice" := ⟨os, hos, hcs⟩
  unfold getItem
  try with_reducible refine wpAny_holding ?_
  first | refine wpAny_bind (wpAny_pure ?_) | skip
  refine wpAny_bind (wpAny_sequenceKey ht.typeIs (by decide) ?_)
  refine wpAny_bind (wpAny_callSpecial?_slot (name := Str.ofString "__getitem__") ht.typeIs PyProof.Rows.slot_tuple_getitem
    (wpAny_call_entry PyProof.Rows.slot_tuple_getitem ht.typeIs entry_tuple_getitem ?_ (args_tuple_getitem _ _)))
  show wpAny _ _ (Builtin.Tuple.tupleItemsOf (.ref t) >>= _) _ _ s
  refine wpAny_bind (tupleItemsOf_ ht ?_)
  refine wpAny_bind (wpAny_typeOf hTs ?_)
  rw [if_pos (by decide)]
  refine wpAny_bind (sliceApplied_gen hs pl pu ?_)
  have hno : ¬ ((((sIx items.size 0 lo : Nat) : Int) == 0 && (1 : Int) == 1 && (sIx items.size items.size hi - sIx items.size 0 lo) == items.size) = true) := by
    intro q
    rw [Bool.and_eq_true, Bool.and_eq_true] at q
    have q1 : ((sIx items.size 0 lo : Nat) : Int) = 0 := eq_of_beq q.1.1
    have q2 : sIx items.size items.size hi - sIx items.size 0 lo = items.size := eq_of_beq q.2
    exact hw ⟨by omega, by omega⟩
  show wpAny _ _ (if (((sIx items.size 0 lo : Nat) : Int) == 0 && (1 : Int) == 1 && (sIx items.size items.size hi - sIx items.size 0 lo) == items.size) = true then _ else _) _ _ s
  rw [if_neg hno, pick_gen]
  first
    | exact wpAny_bind (m := Builtin.Tuple.tupleExact _) (wpAny_newObj_type (wpAny_pure ⟨_, rfl, wpAny_pure h⟩) htake)
    | exact wpAny_bind (m := Builtin.Tuple.tupleExact _) (wpAny_newObj_type (wpAny_bind (wpAny_pure (wpAny_pure ⟨_, rfl, wpAny_pure h⟩))) htake)
    | exact wpAny_bind (wpAny_bind (m := Builtin.Tuple.tupleExact _) (wpAny_newObj_type (wpAny_pure (wpAny_pure ⟨_, rfl, wpAny_pure h⟩)) htake))
    | exact wpAny_bind (wpAny_bind (m := Builtin.Tuple.tupleExact _) (wpAny_newObj_type (wpAny_pure ⟨_, rfl, wpAny_pure h⟩) htake))
end
end HT

namespace L2
open PySem PySem.Spec PyProof.Rows

/-! ### the parts of a slice -/
abbrev TO := St → Hp → (Option Int → Hp → Prop) → Prop
/-- a slice's part (left out, or an int) -/
def PO (X : Cx) (e : Option Expr) (t : TO) : Prop :=
  ∀ (pins : List (Addr × Obj)) (s : Shared) (σ : St) (H : Hp) (Q : Option Int → Hp → Prop), Inv X pins σ H s → t σ H Q →
    wpAny (model X.prog X.w) X.A (evalPart e X.env) (fun u s' => ∃ o H', Inv X pins σ H' s' ∧ IsPart u o ∧ Q o H') X.xe s
def tNoPart : TO := fun _ H Q => Q none H
def tPart (t : TE) : TO := fun σ H Q => t σ H fun x H1 => ∃ i, x = .int i ∧ Q (some i) H1


section
variable {X : Cx} {e : Expr} {te : TE} {lo hi : Option Expr} {tl th : TO} {pos p2 : Pos}

theorem po_none : PO X none tNoPart := by
  intro pins s σ H Q I h
  rw [evalPart_none]
  exact wpAny_pure ⟨none, H, I, .none, h⟩
theorem po_some (h : PE X e te) : PO X (some e) (tPart te) := by
  intro pins s σ H Q I hw
  rw [evalPart_some]
  refine thn (h pins s σ H _ I hw) fun u s1 ⟨x, H1, I1, r1, q1⟩ => ?_
  obtain ⟨i, rfl, q⟩ := q1
  obtain ⟨t, rfl⟩ := r1
  exact ⟨some i, H1, I1, .int i t, q⟩

/-- what a slice of a value is, by values: the slice object stands at sl -/
def SlR (X : Cx) (r : V → Option Int → Option Int → Hp → VK → Prop) : Prop :=
  ∀ (pins : List (Addr × Obj)) (s : Shared) (σ : St) (H : Hp) (x : V) (v vl vu : Value) (lo hi : Option Int) (sl : Addr) (Q : VK), Inv X pins σ H s → RelV x v → s.heap.IsSliceOf sl vl vu .none → IsPart vl lo → IsPart vu hi → r x lo hi H Q →
    ∃ T id, typeLookup (.type T) "__getitem__" = pure (some (.builtin id)) ∧ s.TypeIs v T ∧ wpAny (model X.prog X.w) X.A (getItem v (.ref sl)) (EP X pins σ Q) X.xe s
def tSl (r : V → Option Int → Option Int → Hp → VK → Prop) (te : TE) (tl th : TO) : TE := fun σ H Q => te σ H fun x H1 => tl σ H1 fun l H2 => th σ H2 fun u H3 => r x l u H3 Q
/-- a[lo:hi], any a -/
theorem pe_slice {r : V → Option Int → Option Int → Hp → VK → Prop} (hr : SlR X r) (he : PE X e te) (hl : PO X lo tl) (hu : PO X hi th) : PE X (.Subscript e (.Slice lo hi none p2) pos) (tSl r te tl th) := by
  intro pins s σ H Q I h
  refine Subscript_ (thn (he pins s σ H _ I h) fun v s1 ⟨x, H1, I1, r1, q1⟩ => ?_)
  refine wpAny_Slice (thn (hl pins s1 σ H1 _ I1 q1) fun vl s2 ⟨l, H2, I2, pl, q2⟩ => thn (hu pins s2 σ H2 _ I2 q2) fun vu s3 ⟨u, H3, I3, pu, q3⟩ => ?_)
  rw [evalPart_none]
  refine wpAny_pure ?_
  have I4 : Inv X pins σ H3 { s3 with heap := s3.heap.push { cls := .type "slice", data := .fields #[vl, vu, .none] } } := I3.kept (t' := s3.toks) fun b ob q => Heap.get?_push_of_some _ q
  obtain ⟨T, id, hT, ht, hg⟩ := hr pins { s3 with heap := s3.heap.push { cls := .type "slice", data := .fields #[vl, vu, .none] } } σ H3 x v vl vu l u s3.heap.objs.size Q I4 r1 (Heap.IsSliceOf.new ..) pl pu q3
  show wpAny (model X.prog X.w) X.A (subscriptTail e (.Slice lo hi none p2) v (.ref s3.heap.objs.size)) (EP X pins σ Q) X.xe { s3 with heap := s3.heap.push { cls := .type "slice", data := .fields #[vl, vu, .none] } }
  exact tail_any (ops := [.ref s3.heap.objs.size, v]) ht hT hg (by with_unfolding_all rfl)

/-- the items of xs[lo:hi] -/
def cutV (xs : List V) (lo hi : Option Int) : List V := (xs.drop (HT.sIx xs.length 0 lo)).take (HT.sIx xs.length xs.length hi - HT.sIx xs.length 0 lo)
theorem cutV_length (xs : List V) (lo hi : Option Int) : (cutV xs lo hi).length ≤ xs.length := by
  unfold cutV
  rw [List.length_take, List.length_drop]
  omega
/-- t[lo:hi], not the whole of it (the whole would be t itself) -/
def rSlT (K : PySem.W.Frag) : V → Option Int → Option Int → Hp → VK → Prop := fun x lo hi H Q => ∃ a xs, x = .ref a ∧ SqT K H a xs ∧
  ¬ (HT.sIx xs.length 0 lo = 0 ∧ HT.sIx xs.length xs.length hi = xs.length) ∧ ∀ p, H p = none → Q (.ref p) (upd H p (.tup (cutV xs lo hi)))
theorem sl_tup : SlR X (rSlT X.K) := by
  intro pins s σ H x v vl vu lo hi sl Q I rx hs pl pu h
  obtain ⟨a, xs, rfl, hx, hw, q⟩ := h
  cases rx
  obtain ⟨its, r, ht, hz⟩ := I.tuple hx
  have hlen : its.toArray.size = xs.length := by rw [List.size_toArray]; exact r.length.symm
  refine ⟨"tuple", _, PyProof.Rows.slot_tuple_getitem.lookup, ht.typeIs, ?_⟩
  refine HT.getItem_tuple_cut ht hs pl pu (by rw [hlen]; exact hw) ?_ (by rw [hlen]; exact hz)
  rw [hlen]
  refine ⟨.ref s.heap.objs.size, _, I.laid (t' := s.toks) (o := .tup (cutV xs lo hi)) (fun b ob q => Heap.get?_push_of_some _ q) (Nat.le_refl _) ?_, rfl, q _ (I.hok.fresh (Nat.le_refl _))⟩
  exact ⟨Nat.le_trans (cutV_length xs lo hi) hz, _, (r.drop (HT.sIx xs.length 0 lo)).take (HT.sIx xs.length xs.length hi - HT.sIx xs.length 0 lo), IsTup.new _ _⟩

/-! ### t < u, t + u -/
/-- t + u, t not empty: u empty gives t itself -/
def rCatT (K : PySem.W.Frag) : R2 := fun x y H Q => ∃ a b xs ys, x = .ref a ∧ y = .ref b ∧ SqT K H a xs ∧ SqT K H b ys ∧ xs ≠ [] ∧ xs.length + ys.length ≤ sizeLine ∧
  (ys = [] → Q (.ref a) H) ∧ (ys ≠ [] → ∀ p, H p = none → Q (.ref p) (upd H p (.tup (xs ++ ys))))
theorem Vals.nil_iff {xs : List V} {us : List Value} (r : Vals xs us) : us = [] ↔ xs = [] := by
  cases r with
  | nil => simp
  | cons _ _ => simp
theorem op_catT : OpR X (binaryOp .Add) (rCatT X.K) := by
  intro pins s σ H x y v u Q I rx ry h
  obtain ⟨a, b, xs, ys, rfl, rfl, ha, hb, hx, hz, q1, q2⟩ := h
  cases rx
  cases ry
  obtain ⟨its, r1, p1, _⟩ := I.tuple ha
  obtain ⟨its2, r2, p2, _⟩ := I.tuple hb
  refine HT.cat_tup p1 p2 (fun z => hx (r1.nil_iff.mp z)) (fun z => ⟨.ref a, H, I, rfl, q1 (r2.nil_iff.mp z)⟩) (fun z => ?_) (by rw [← r1.length, ← r2.length]; exact hz)
  refine ⟨.ref s.heap.objs.size, _, I.laid (t' := s.toks) (o := .tup (xs ++ ys)) (fun b ob q => Heap.get?_push_of_some _ q) (Nat.le_refl _) ?_, rfl, q2 (fun w => z (r2.nil_iff.mpr w)) _ (I.hok.fresh (Nat.le_refl _))⟩
  exact ⟨by rw [List.length_append]; exact hz, _, r1.append r2, IsTup.new _ _⟩
end
end L2

namespace L2
open PySem PySem.Spec PyProof.Rows

/-! ### places -/
/-- the place that an index of any sign means -/
def ixN (n : Nat) (i : Int) : Option Nat := if 0 ≤ i then (if i < n then some i.toNat else none) else if -(n : Int) ≤ i then some (i + n).toNat else none
def atI {α : Type} (xs : List α) (i : Int) : Option α := (ixN xs.length i).bind fun j => xs[j]?
theorem ixN_seq {n : Nat} {i : Int} {j : Nat} (h : ixN n i = some j) : seqIndex? i n = some j ∧ j < n ∧ -(n : Int) ≤ i ∧ i < n := by
  unfold ixN at h
  by_cases h0 : 0 ≤ i
  · rw [if_pos h0] at h
    by_cases h1 : i < n
    · rw [if_pos h1] at h
      have e : i.toNat = j := Option.some.inj h
      exact ⟨by rw [seqIndex_of h0 h1, e], by omega, by omega, h1⟩
    · rw [if_neg h1] at h; cases h
  · rw [if_neg h0] at h
    by_cases h1 : -(n : Int) ≤ i
    · rw [if_pos h1] at h
      have e : (i + n).toNat = j := Option.some.inj h
      exact ⟨by rw [seqIndex_neg (by omega) h1, e], by omega, h1, by omega⟩
    · rw [if_neg h1] at h; cases h
theorem atI_get {α : Type} {xs : List α} {i : Int} {v : α} (h : atI xs i = some v) : ∃ j, seqIndex? i xs.length = some j ∧ xs[j]? = some v ∧ j < xs.length ∧ -(xs.length : Int) ≤ i ∧ i < xs.length := by
  unfold atI at h
  cases e : ixN xs.length i with
  | none => rw [e] at h; cases h
  | some j =>
    rw [e] at h
    obtain ⟨h1, h2, h3, h4⟩ := ixN_seq e
    exact ⟨j, h1, h, h2, h3, h4⟩
theorem atI_nat {α : Type} {xs : List α} {j : Nat} {v : α} (h : xs[j]? = some v) : atI xs (j : Int) = some v := by
  have hj : j < xs.length := (List.getElem?_eq_some_iff.mp h).1
  have e : ixN xs.length (j : Int) = some j := by
    unfold ixN
    rw [if_pos (by omega), if_pos (by omega)]; simp
  unfold atI; rw [e]; exact h

/-! ### what may be subscripted -/
/-- what stands as an index of a plain subscript -/
def PlainIx (b : Expr) : Prop := ∀ o i, subscripted b false o i = operate [o, i] (getItem o i)
/-- a subscript by values -/
def IxR (X : Cx) (r : R2) : Prop :=
  ∀ (value slice : Expr) (pins : List (Addr × Obj)) (s : Shared) (σ : St) (H : Hp) (x y : V) (v u : Value) (Q : VK), Inv X pins σ H s → RelV x v → RelV y u → r x y H Q →
    subscripted slice false v u = operate [v, u] (getItem v u) → wpAny (model X.prog X.w) X.A (subscriptTail value slice v u) (EP X pins σ Q) X.xe s
/-- a call of a builtin's method by values: the receiver, the arguments -/
def MtR (X : Cx) (id : String) (r : V → List V → Hp → VK → Prop) : Prop :=
  ∀ (pins : List (Addr × Obj)) (s : Shared) (σ : St) (H : Hp) (x : V) (xs : List V) (v : Value) (us : List Value) (Q : VK), Inv X pins σ H s → RelV x v → Vals xs us → r x xs H Q →
    wpAny (model X.prog X.w) X.A (call (.builtin id) (v :: us)) (EP X pins σ Q) X.xe s
section
variable {X : Cx} {a b : Expr} {ta tb : TE} {pos : Pos}
/-- a[b] -/
theorem pe_ix {r : R2} (hr : IxR X r) (ha : PE X a ta) (hb : PE X b tb) (hs : PlainIx b) : PE X (.Subscript a b pos) (tOp r ta tb) := by
  intro pins s σ H Q I h
  exact Subscript_ (binT ha hb I h fun v u s2 x y H2 I2 rx ry q => hr a b pins s2 σ H2 x y v u Q I2 rx ry q (hs _ _))

def rIxL (K : PySem.W.Frag) : R2 := fun x y H Q => ∃ p xs i v, x = .ref p ∧ y = .int i ∧ SqL K H p xs ∧ atI xs i = some v ∧ Q v H
def rIxT (K : PySem.W.Frag) : R2 := fun x y H Q => ∃ p xs i v, x = .ref p ∧ y = .int i ∧ SqT K H p xs ∧ atI xs i = some v ∧ Q v H
def rIxS : R2 := fun x y H Q => ∃ z i c, x = .str z ∧ y = .int i ∧ z.length ≤ sizeLine ∧ atI z.cps.toList i = some c ∧ Q (.str ⟨#[c]⟩) H
theorem ix_list : IxR X (rIxL X.K) := by
  intro value slice pins s σ H x y v u Q I rx ry h hs
  obtain ⟨p, xs, i, z, rfl, rfl, hq, he, q⟩ := h
  cases rx
  obtain ⟨t, rfl⟩ := ry
  obtain ⟨its, r, pl, hz⟩ := I.list hq
  obtain ⟨j, h1, h2, h3, h4, h5⟩ := atI_get he
  obtain ⟨w, ew, rw'⟩ := r.get h2
  have hl := r.length
  have hn := line63
  have fin : EP X pins σ Q w s := ⟨z, H, I, rw', q⟩
  by_cases h0 : 0 ≤ i
  · have hj : i.toNat = j := by
      rw [seqIndex_of h0 h5] at h1
      exact Option.some.inj h1
    exact item_listR pl.isList h0 (by omega) (by rw [hj]; simpa using ew) fin hs
  · have hj : (i + (its.toArray.size : Int)).toNat = j := by
      rw [seqIndex_neg (by omega) h4] at h1
      rw [List.size_toArray, ← hl]
      exact Option.some.inj h1
    exact subscriptTail_builtinR (x := w) pl.isList.typeIs slot_list_getitem.lookup
      (wpAny_getItem_list_neg (Q := fun r s' => r = w ∧ EP X pins σ Q r s') pl.isList (by omega) (by rw [List.size_toArray] <;> omega) (by omega) (by rw [hj]; simpa using ew) ⟨rfl, fin⟩) hs
theorem ix_tup : IxR X (rIxT X.K) := by
  intro value slice pins s σ H x y v u Q I rx ry h hs
  obtain ⟨p, xs, i, z, rfl, rfl, hq, he, q⟩ := h
  cases rx
  obtain ⟨t, rfl⟩ := ry
  obtain ⟨its, r, pl, hz⟩ := I.tuple hq
  obtain ⟨j, h1, h2, h3, h4, h5⟩ := atI_get he
  obtain ⟨w, ew, rw'⟩ := r.get h2
  have hl := r.length
  have hn := line63
  have fin : EP X pins σ Q w s := ⟨z, H, I, rw', q⟩
  exact subscriptTail_builtinR (x := w) pl.typeIs slot_tuple_getitem.lookup
    (getItem_tuple (j := j) (Q := fun r s' => r = w ∧ EP X pins σ Q r s') pl (by omega) (by omega) (by rw [List.size_toArray, ← hl]; exact h1) (by simpa using ew) ⟨rfl, fin⟩) hs
theorem ix_str : IxR X rIxS := by
  intro value slice pins s σ H x y v u Q I rx ry h hs
  obtain ⟨z, i, c, rfl, rfl, hz, he, q⟩ := h
  obtain ⟨t, rfl⟩ := rx
  obtain ⟨t', rfl⟩ := ry
  obtain ⟨j, h1, h2, h3, h4, h5⟩ := atI_get he
  have hl : z.cps.toList.length = z.length := by simp [Str.length]
  rw [hl] at h1 h4 h5
  have hn := line63
  exact tail_any (typeIs_str s z t) slot_str_getitem.lookup (getItem_str (c := c) (by
    have e1 : decide (i < -(2 ^ 63 : Int)) = false := decide_eq_false (by omega)
    have e2 : decide (i ≥ 2 ^ 63) = false := decide_eq_false (by omega)
    rw [e1, e2, Bool.or_false]) (by rw [h1]; simpa using h2) ⟨.str ⟨#[c]⟩, H, I.tok _, ⟨_, rfl⟩, q⟩) hs

/-! ### xs[i] = v, any sign -/
/-- the list's object behind a store -/
theorem mapSeq_set (its : List Value) (n j : Nat) (u : Value) : Obj.mapSeq (·.setIfInBounds j u) { cls := .type "list", data := .seq its.toArray n } = { cls := .type "list", data := .seq (its.set j u).toArray n } := by
  simp [Obj.mapSeq]
theorem Inv.lst {pins : List (Addr × Obj)} {σ : St} {H : Hp} {s : Shared} {p : Addr} {xs : List V} (I : Inv X pins σ H s) (h : H p = some (.lst xs)) :
    ∃ (its : List Value) (n : Nat), Vals xs its ∧ s.heap.get? p = some { cls := .type "list", data := .seq its.toArray n } ∧ xs.length ≤ sizeLine := by
  obtain ⟨z, its, n, r, e⟩ := I.hok p _ h
  exact ⟨its, n, r, e, z⟩
/-- the list at p is written by an update of its object -/
theorem Inv.lstUpd {pins : List (Addr × Obj)} {σ : St} {H : Hp} {s : Shared} {p : Addr} {xs ys : List V} {its its' : List Value} {n n' : Nat} {f : Obj → Obj} (I : Inv X pins σ H s) (h : H p = some (.lst xs))
    (ho : s.heap.get? p = some { cls := .type "list", data := .seq its.toArray n }) (hf : f { cls := .type "list", data := .seq its.toArray n } = { cls := .type "list", data := .seq its'.toArray n' }) (r : Vals ys its') (hz : ys.length ≤ sizeLine) (t : Nat) :
    Inv X pins σ (upd H p (.lst ys)) { s with heap := s.heap.update p f, toks := t } := by
  have e : (s.heap.update p f).get? p = some { cls := .type "list", data := .seq its'.toArray n' } := by
    rw [Heap.get?_update_self f ho (by rw [hf] <;> rfl), hf]
  refine I.write (x := p) (e := p) (by rw [h]; trivial) (.inl rfl) (fun b u hb q => (Heap.get?_update_other _ _ (Ne.symm hb)).trans q) ⟨_, e⟩ ?_
  exact ⟨hz, its', n', r, e⟩
def rSetL : V → V → V → Hp → (Hp → Prop) → Prop := fun o i v H Q => ∃ p xs k j, o = .ref p ∧ i = .int k ∧ H p = some (.lst xs) ∧ ixN xs.length k = some j ∧ Q (upd H p (.lst (xs.set j v)))
theorem set_list : PSet X rSetL := by
  intro pins s σ H o i v ov iv u Q I ro ri rv h
  obtain ⟨p, xs, k, j, rfl, rfl, hp, hj, q⟩ := h
  cases ro
  obtain ⟨t, rfl⟩ := ri
  obtain ⟨its, n, r, ho, hz⟩ := I.lst hp
  obtain ⟨h1, h2, h3, h4⟩ := ixN_seq hj
  have hl := r.length
  have hn := line63
  have I' : Inv X pins σ (upd H p (.lst (xs.set j v))) { s with heap := s.heap.update p (Obj.mapSeq (·.setIfInBounds j u)) } :=
    I.lstUpd hp ho (mapSeq_set its n j u) (r.set rv j) (by rw [List.length_set]; exact hz) s.toks
  by_cases h0 : 0 ≤ k
  · have hk : k.toNat = j := by
      rw [seqIndex_of h0 h4] at h1
      exact Option.some.inj h1
    exact PySem.W.ki_setAt ho h0 (by omega) (by rw [List.size_toArray, ← hl]; exact h4) (by rw [hk]; exact ⟨_, I', q⟩)
  · have hk : (k + (its.toArray.size : Int)).toNat = j := by
      rw [seqIndex_neg (by omega) h3] at h1
      rw [List.size_toArray, ← hl]
      exact Option.some.inj h1
    exact PySem.W.ki_setBack ho (by omega) (by rw [List.size_toArray, ← hl]; exact h3) (by omega) (by rw [hk]; exact ⟨_, I', q⟩)

/-! ### slices -/
theorem slice_bounds (lo hi : Option Int) (n : Nat) : (sliceBounds lo hi none n).1 = ((HT.sIx n 0 lo : Nat) : Int) ∧ (sliceBounds lo hi none n).2.1 = ((HT.sIx n n hi : Nat) : Int) ∧ (sliceBounds lo hi none n).2.2 = 1 := by
  refine ⟨?_, ?_, rfl⟩
  · cases lo with
    | none => simp [sliceBounds, HT.sIx]
    | some i =>
      simp only [sliceBounds, HT.sIx, Option.getD_none, show (1 : Int) > 0 by decide, if_true]
      by_cases h : i < 0
      · simp only [h, if_true] <;> omega
      · simp only [h, if_false] <;> omega
  · cases hi with
    | none => simp [sliceBounds, HT.sIx]
    | some i =>
      simp only [sliceBounds, HT.sIx, Option.getD_none, show (1 : Int) > 0 by decide, if_true]
      by_cases h : i < 0
      · simp only [h, if_true] <;> omega
      · simp only [h, if_false] <;> omega
theorem slicePick_cut (its : List Value) (lo hi : Option Int) : slicePick its.toArray lo hi none = ((its.drop (HT.sIx its.length 0 lo)).take (HT.sIx its.length its.length hi - HT.sIx its.length 0 lo)).toArray := by
  obtain ⟨h1, h2, h3⟩ := slice_bounds lo hi its.toArray.size
  unfold slicePick
  rw [h1, h2, h3]
  simp only [sliceRange_one, pick_run, List.size_toArray] <;> rfl
/-- xs[lo:hi] of a list: a new list -/
def rSlL (K : PySem.W.Frag) : V → Option Int → Option Int → Hp → VK → Prop := fun x lo hi H Q => ∃ a xs, x = .ref a ∧ SqL K H a xs ∧ ∀ p, H p = none → Q (.ref p) (upd H p (.lst (cutV xs lo hi)))
theorem sl_list : SlR X (rSlL X.K) := by
  intro pins s σ H x v vl vu lo hi sl Q I rx hs pl pu h
  obtain ⟨a, xs, rfl, hx, q⟩ := h
  cases rx
  obtain ⟨its, r, ht, hz⟩ := I.list hx
  have hlen := r.length
  refine ⟨"list", _, slot_list_getitem.lookup, ht.isList.typeIs, ?_⟩
  refine wpAny_getItem_list_slice ht.isList hs pl pu .none (by simp) ?_ (by rw [List.size_toArray] <;> omega)
  rw [slicePick_cut, ← hlen]
  refine ⟨.ref s.heap.objs.size, _, I.laid (t' := s.toks) (o := .lst (cutV xs lo hi)) (fun b ob q => Heap.get?_push_of_some _ q) (Nat.le_refl _) ?_, rfl, q _ (I.hok.fresh (Nat.le_refl _))⟩
  exact ⟨Nat.le_trans (cutV_length xs lo hi) hz, _, 0, (r.drop (HT.sIx xs.length 0 lo)).take (HT.sIx xs.length xs.length hi - HT.sIx xs.length 0 lo), Heap.get?_push_size _ rfl⟩

/-! ### in, not in: flat items -/
def flatV : V → Bool
  | .non => true
  | .bl _ => true
  | .int _ => true
  | .str _ => true
  | _ => false
/-- == of flat values -/
def eqV : V → V → Bool
  | .non, .non => true
  | .bl a, .bl b => a == b
  | .bl a, .int b => (if a then 1 else 0) == b
  | .int a, .bl b => a == (if b then 1 else 0)
  | .int a, .int b => a == b
  | .str a, .str b => a == b
  | _, _ => false
theorem eqAt_V {A : Around} {s : Shared} {y x : V} {u v : Value} (ry : RelV y u) (rx : RelV x v) (fy : flatV y = true) (fx : flatV x = true) : SeqAt.EqAt A s u v (eqV y x) := by
  cases y with
  | non =>
    cases ry
    cases x with
    | non => cases rx; exact SeqAt.EqAt.same _
    | bl b => cases rx; exact SeqAt.EqAt.none_bool b
    | int b => obtain ⟨t, rfl⟩ := rx; exact SeqAt.EqAt.none_int b t
    | str b => obtain ⟨t, rfl⟩ := rx; exact SeqAt.EqAt.none_str b t
    | _ => exact absurd (show false = true from fx) Bool.false_ne_true
  | bl a =>
    cases ry
    cases x with
    | non => cases rx; exact SeqAt.EqAt.bool_none a
    | bl b => cases rx; exact SeqAt.EqAt.bool_bool a b
    | int b => obtain ⟨t, rfl⟩ := rx; exact SeqAt.EqAt.bool_int a b t
    | str b => obtain ⟨t, rfl⟩ := rx; exact SeqAt.EqAt.bool_str a b t
    | _ => exact absurd (show false = true from fx) Bool.false_ne_true
  | int a =>
    obtain ⟨t', rfl⟩ := ry
    cases x with
    | non => cases rx; exact SeqAt.EqAt.int_none a t'
    | bl b => cases rx; exact SeqAt.EqAt.int_bool a t' b
    | int b => obtain ⟨t, rfl⟩ := rx; exact SeqAt.EqAt.int_int a t' b t
    | str b => obtain ⟨t, rfl⟩ := rx; exact SeqAt.EqAt.int_str a t' b t
    | _ => exact absurd (show false = true from fx) Bool.false_ne_true
  | str a =>
    obtain ⟨t', rfl⟩ := ry
    cases x with
    | non => cases rx; exact SeqAt.EqAt.str_none a t'
    | bl b => cases rx; exact SeqAt.EqAt.str_bool a t' b
    | int b => obtain ⟨t, rfl⟩ := rx; exact SeqAt.EqAt.str_int a t' b t
    | str b => obtain ⟨t, rfl⟩ := rx; exact SeqAt.EqAt.str_str a t' b t
    | _ => exact absurd (show false = true from fx) Bool.false_ne_true
  | _ => exact absurd (show false = true from fy) Bool.false_ne_true
/-- the items' answers, read off the values (a value's own answer does not lean on its token) -/
def eqU (x : V) (u : Value) : Bool := match u with
  | .none => eqV .non x
  | .bool b => eqV (.bl b) x
  | .int i _ => eqV (.int i) x
  | .str z _ => eqV (.str z) x
  | _ => false
theorem eqU_of {x y : V} {u : Value} (r : RelV y u) (f : flatV y = true) : eqU x u = eqV y x := by
  cases y with
  | non => cases r; rfl
  | bl b => cases r; rfl
  | int i => obtain ⟨t, rfl⟩ := r; rfl
  | str z => obtain ⟨t, rfl⟩ := r; rfl
  | _ => exact absurd (show false = true from f) Bool.false_ne_true
theorem any_eqU {x : V} : ∀ {xs : List V} {us : List Value}, Vals xs us → xs.all flatV = true → us.any (eqU x) = xs.any fun y => eqV y x
  | _, _, .nil, _ => rfl
  | y :: xs, u :: us, .cons r t, f => by
    rw [List.all_cons, Bool.and_eq_true] at f
    rw [List.any_cons, List.any_cons, eqU_of r f.1, any_eqU t f.2]
theorem mem_eqAt {A : Around} {s : Shared} {x : V} {v : Value} (rx : RelV x v) (fx : flatV x = true) : ∀ {xs : List V} {us : List Value}, Vals xs us → xs.all flatV = true → ∀ u ∈ us, SeqAt.EqAt A s u v (eqU x u)
  | _, _, .nil, _ => fun u hu => by cases hu
  | y :: xs, u :: us, .cons r t, f => fun u' hu => by
    rw [List.all_cons, Bool.and_eq_true] at f
    rcases List.mem_cons.mp hu with rfl | hu
    · rw [eqU_of r f.1]; exact eqAt_V r rx f.1 fx
    · exact mem_eqAt rx fx t f.2 u' hu
def inV (x : V) (xs : List V) : Bool := xs.any fun y => eqV y x
/-- x in a list or tuple of flat items -/
def rIn (K : PySem.W.Frag) (neg : Bool) : R2 := fun x y H Q => ∃ p xs, y = .ref p ∧ (SqL K H p xs ∨ SqT K H p xs) ∧ flatV x = true ∧ xs.all flatV = true ∧ Q (.bl (if neg then !inV x xs else inV x xs)) H
theorem op_in_seq : OpR X (compareOp .In) (rIn X.K false) := by
  intro pins s σ H x y v u Q I rx ry h
  obtain ⟨p, xs, rfl, hq, fx, fs, q⟩ := h
  cases ry
  rcases hq with hq | hq
  · obtain ⟨its, r, pl, hz⟩ := I.list hq
    refine SeqAt.in_listAt (eqU x) pl.isList (fun w hw => mem_eqAt rx fx r fs w (by simpa using hw)) ⟨.bl _, H, I, rfl, ?_⟩
    rw [show its.toArray.any (eqU x) = its.any (eqU x) by simp, any_eqU r fs]
    exact q
  · obtain ⟨its, r, pl, hz⟩ := I.tuple hq
    refine SeqAt.in_tupleAt (eqU x) pl (fun w hw => mem_eqAt rx fx r fs w (by simpa using hw)) ⟨.bl _, H, I, rfl, ?_⟩
    rw [show its.toArray.any (eqU x) = its.any (eqU x) by simp, any_eqU r fs]
    exact q
theorem op_notIn_seq : OpR X (compareOp .NotIn) (rIn X.K true) := by
  intro pins s σ H x y v u Q I rx ry h
  obtain ⟨p, xs, rfl, hq, fx, fs, q⟩ := h
  cases ry
  rcases hq with hq | hq
  · obtain ⟨its, r, pl, hz⟩ := I.list hq
    refine SeqAt.notIn_listAt (eqU x) pl.isList (fun w hw => mem_eqAt rx fx r fs w (by simpa using hw)) ⟨.bl _, H, I, rfl, ?_⟩
    rw [show its.toArray.any (eqU x) = its.any (eqU x) by simp, any_eqU r fs]
    exact q
  · obtain ⟨its, r, pl, hz⟩ := I.tuple hq
    refine SeqAt.notIn_tupleAt (eqU x) pl (fun w hw => mem_eqAt rx fx r fs w (by simpa using hw)) ⟨.bl _, H, I, rfl, ?_⟩
    rw [show its.toArray.any (eqU x) = its.any (eqU x) by simp, any_eqU r fs]
    exact q

/-! ### len, list(x), tuple(x) of any list or tuple that is read -/
theorem call_len_seq : CallR X (.builtin "len") (fun xs H Q => ∃ p ys, xs = [.ref p] ∧ (SqL X.K H p ys ∨ SqT X.K H p ys) ∧ Q (.int ys.length) H) := by
  intro pins s σ H xs us Q I r h
  obtain ⟨p, ys, rfl, hq, q⟩ := h
  obtain ⟨u, rfl, rx⟩ := vals1 r
  cases rx
  have hn := line63
  rcases hq with hq | hq
  · obtain ⟨its, r', pl, hz⟩ := I.list hq
    have hlen := r'.length
    exact Calls.call_len_list pl.isList (by simp only [List.size_toArray] <;> omega) ⟨.int ys.length, H, I.tok _, ⟨s.toks + 1, by rw [List.size_toArray, hlen]⟩, q⟩
  · obtain ⟨its, r', pl, hz⟩ := I.tuple hq
    have hlen := r'.length
    exact len_tuple pl (by simp only [List.size_toArray] <;> omega) ⟨.int ys.length, H, I.tok _, ⟨s.toks + 1, by rw [List.size_toArray, hlen]⟩, q⟩
theorem call_len_str : CallR X (.builtin "len") (fun xs H Q => ∃ z, xs = [.str z] ∧ z.length ≤ sizeLine ∧ Q (.int z.length) H) := by
  intro pins s σ H xs us Q I r h
  obtain ⟨z, rfl, hz, q⟩ := h
  obtain ⟨u, rfl, t, rfl⟩ := vals1 r
  have hn := line63
  exact len_str (by omega) ⟨.int z.length, H, I.tok _, ⟨_, rfl⟩, q⟩
theorem call_list_of : CallR X (.type "list") (fun xs H Q => ∃ p ys, xs = [.ref p] ∧ (SqL X.K H p ys ∨ SqT X.K H p ys) ∧ ∀ l, H l = none → Q (.ref l) (upd H l (.lst ys))) := by
  intro pins s σ H xs us Q I r h
  obtain ⟨p, ys, rfl, hq, q⟩ := h
  obtain ⟨u, rfl, rx⟩ := vals1 r
  cases rx
  have fin : ∀ (its : List Value), Vals ys its → ys.length ≤ sizeLine → ∀ (h' : Heap) (c' : Nat), (∀ b o', s.heap.get? b = some o' → h'.get? b = some o') →
      h'.get? s.heap.objs.size = some { cls := .type "list", dict := none, data := .seq its.toArray c', slots := #[] } → EP X pins σ Q (.ref s.heap.objs.size) { s with heap := h' } := fun its r' hz h' c' kp e =>
    ⟨.ref s.heap.objs.size, _, I.laid (t' := s.toks) kp (Nat.le_refl _) (show ObjOk X.prog X.w _ h' _ (.lst ys) from ⟨hz, its, c', r', e⟩), rfl, q _ (I.hok.fresh (Nat.le_refl _))⟩
  rcases hq with hq | hq
  · obtain ⟨its, r', pl, hz⟩ := I.list hq
    have hlen := r'.length
    obtain ⟨o, ho, hc, n, hd⟩ := pl.isList
    exact call_list_seq p (.inl rfl) ho hc hd (fun h' c' kp e => fin its r' hz h' c' kp e) (by simp only [List.size_toArray] <;> omega)
  · obtain ⟨its, r', pl, hz⟩ := I.tuple hq
    have hlen := r'.length
    obtain ⟨o, ho, hc, n, hd⟩ := pl
    exact call_list_seq p (.inr rfl) ho hc hd (fun h' c' kp e => fin its r' hz h' c' kp e) (by simp only [List.size_toArray] <;> omega)
theorem call_tuple_of : CallR X (.type "tuple") (fun xs H Q => ∃ p ys, xs = [.ref p] ∧ ((SqL X.K H p ys ∧ ∀ l, H l = none → Q (.ref l) (upd H l (.tup ys))) ∨ (SqT X.K H p ys ∧ Q (.ref p) H))) := by
  intro pins s σ H xs us Q I r h
  obtain ⟨p, ys, rfl, h⟩ := h
  obtain ⟨u, rfl, rx⟩ := vals1 r
  cases rx
  rcases h with ⟨hq, q⟩ | ⟨hq, q⟩
  · obtain ⟨its, r', pl, hz⟩ := I.list hq
    have hlen := r'.length
    refine call_tuple_list pl.isList (fun h' kp => ?_) (by simp only [List.size_toArray] <;> omega)
    have I1 : Inv X pins σ H { s with heap := h' } := I.kept (t' := s.toks) kp
    have I2 : Inv X pins σ (upd H h'.objs.size (.tup ys)) { s with heap := h'.push { cls := .type "tuple", data := .seq its.toArray } } :=
      I1.laid (t' := s.toks) (fun b o e => Heap.get?_push_of_some _ e) (Nat.le_refl _) (show ObjOk X.prog X.w _ _ _ (.tup ys) from ⟨hz, its, r', IsTup.new _ _⟩)
    exact ⟨.ref h'.objs.size, _, I2, rfl, q _ (I1.hok.fresh (Nat.le_refl _))⟩
  · obtain ⟨its, r', pl, hz⟩ := I.tuple hq
    exact call_tuple_same pl ⟨.ref p, H, I, rfl, q⟩

/-! ### the call of a builtin's method: o.m(..) -/
/-- the value is of that builtin type -/
def tyV (K : PySem.W.Frag) (T : String) (x : V) (H : Hp) : Prop := match x with
  | .str _ => T = "str"
  | .int _ => T = "int"
  | .ref p => (T = "list" ∧ ∃ xs, SqL K H p xs) ∨ (T = "tuple" ∧ ∃ o, K.lookup p = some o ∧ o.cls = .type "tuple" ∧ o.dict = none) ∨
      (T = "dict" ∧ ((∃ kvs, H p = some (.dK kvs)) ∨ ∃ kvs, H p = some (.dT kvs))) ∨ (T = "set" ∧ ∃ S n, H p = some (.set S n))
  | _ => False
theorem tyV_is {pins : List (Addr × Obj)} {σ : St} {H : Hp} {s : Shared} {T : String} {x : V} {v : Value} (I : Inv X pins σ H s) (r : RelV x v) (ty : tyV X.K T x H) :
    s.TypeIs v T ∧ ∀ a, v = .ref a → ∃ ob, s.heap.get? a = some ob ∧ ob.dict = none := by
  cases x with
  | str z =>
    obtain ⟨t, rfl⟩ := r
    cases (show T = "str" from ty)
    exact ⟨typeIs_str s z t, fun _ e => nomatch e⟩
  | int i =>
    obtain ⟨t, rfl⟩ := r
    cases (show T = "int" from ty)
    exact ⟨typeIs_int s i t, fun _ e => nomatch e⟩
  | ref p =>
    cases r
    rcases ty with ⟨rfl, xs, hq⟩ | ⟨rfl, o, hk, hc, hd⟩ | ⟨rfl, hk⟩ | ⟨rfl, S, n, hk⟩
    · obtain ⟨its, _, pl, _⟩ := I.list hq
      refine ⟨pl.isList.typeIs, fun a e => ?_⟩
      cases e
      obtain ⟨o, n, e, c, hd, _⟩ := pl
      exact ⟨o, e, hd⟩
    · refine ⟨⟨o, I.kIn p o hk, hc⟩, fun a e => ?_⟩
      cases e
      exact ⟨o, I.kIn _ o hk, hd⟩
    · have z : ∃ o, s.heap.get? p = some o ∧ o.ExactDict := by
        rcases hk with ⟨kvs, hk⟩ | ⟨kvs, hk⟩
        · obtain ⟨_, _, _, _, o, _, _, e, ex, _⟩ := I.hok p _ hk
          exact ⟨o, e, ex⟩
        · obtain ⟨_, _, _, _, o, _, _, e, ex, _⟩ := I.hok p _ hk
          exact ⟨o, e, ex⟩
      obtain ⟨o, e, ex⟩ := z
      refine ⟨⟨o, e, ex.1⟩, fun a e2 => ?_⟩
      cases e2
      exact ⟨o, e, ex.2.1⟩
    · obtain ⟨o, _, _, _, e, ex, _⟩ := I.hok p _ hk
      refine ⟨⟨o, e, ex.1⟩, fun a e2 => ?_⟩
      cases e2
      exact ⟨o, e, ex.2.1⟩
  | _ => exact False.elim ty
def tBM (K : PySem.W.Frag) (T : String) (r : V → List V → Hp → VK → Prop) (to : TE) (t : TA) : TE := fun σ H Q => to σ H fun x H1 => tyV K T x H1 ∧ t σ H1 fun xs H2 => r x xs H2 Q
variable {o e : Expr} {es : List Expr} {to : TE} {t : TA} {name : Str} {apos cpos : Pos} {T id : String} {r : V → List V → Hp → VK → Prop}
theorem pe_bm (pa : PlainAttrs T) (slot : Slot T name id) (hty : typeOf (.builtin id) = pure (.type "method_descriptor")) (hm : MtR X id r) (ho : PE X o to) (ha : PA X (e :: es) t)
    (hbase : attributeBase o name X.env (eval o X.env) = eval o X.env := by rfl)
    (hfew : ((backTo cpos (starEach (e :: es) X.env)).all (fun x => !x.1) && (backToKw cpos (keywordEach [] X.env)).all (fun x => x.1.isSome)
      && decide ((e :: es).length + ([] : List Keyword).length + (if ([] : List Keyword).isEmpty then 0 else 1) < 30)) = true := by rfl)
    (hline : (apos.endLine == cpos.line) = true := by rfl) (hs : starEach (e :: es) X.env = (false, eval e X.env) :: starEach es X.env := by rfl) (hplain : (backTo cpos (starEach es X.env)).any (·.1) = false := by rfl) :
    PE X (.Call (.Attribute o name apos) (e :: es) [] cpos) (tBM X.K T r to t) := by
  intro pins s σ H Q I h
  refine wpAny_Call_method_late hbase hfew hline rfl (thn (ho pins s σ H _ I h) fun v s1 ⟨x, H1, I1, r1, ty, q1⟩ => ?_)
  obtain ⟨h1, h2⟩ := tyV_is I1 r1 ty
  refine ⟨T, id, pa, slot, hty, h1, h2, ?_⟩
  have hA := ha cpos pins s1 σ H1 _ I1 q1
  rw [hs] at hA ⊢
  refine Calls.callWith_builtin (by show (false || (backTo cpos (starEach es X.env)).any (·.1)) = false; rw [hplain] <;> rfl) (Calls.evalArgs_plain ?_)
  exact thn hA fun us s2 ⟨vs, H2, I2, r2, q2⟩ => hm pins s2 σ H2 x vs v us Q I2 r1 r2 q2
/- xs.append(e), list.index on a module's tuple .. are MtR facts of 06m -/
end
end L2

namespace L2
open PySem PySem.Spec PyProof.Rows

def MtM (X : Cx) (id : String) (r : V → List V → Hp → VK → Prop) : Prop :=
  ∀ (pins : List (Addr × Obj)) (s : Shared) (σ : St) (H : Hp) (x : V) (xs : List V) (v : Value) (us : List Value) (Q : VK), Inv X pins σ H s → RelV x v → Vals xs us → r x xs H Q →
    wpAny (model X.prog X.w) X.A (call (.builtin id) (v :: us)) (EP X pins σ Q) X.xe s

/-! ### lists of values -/
theorem Vals.one : ∀ {x : V} {us : List Value}, Vals [x] us → ∃ u, us = [u] ∧ RelV x u
  | _, _, .cons r .nil => ⟨_, rfl, r⟩
theorem Vals.rep {xs : List V} {us : List Value} (h : Vals xs us) : ∀ k : Nat, Vals (List.replicate k xs).flatten (List.replicate k us).flatten
  | 0 => .nil
  | k + 1 => by
    rw [List.replicate_succ, List.replicate_succ, List.flatten_cons, List.flatten_cons]
    exact Vals.append h (Vals.rep h k)
theorem foldl_rep (its : List Value) : ∀ (k : Nat) (acc : List Value),
    List.foldl (fun x1 x2 => x1 ++ x2) acc.toArray (List.replicate k its.toArray) = (acc ++ (List.replicate k its).flatten).toArray
  | 0, acc => by simp
  | k + 1, acc => by
    have e : acc.toArray ++ its.toArray = (acc ++ its).toArray := by simp
    have e2 : (acc ++ its) ++ (List.replicate k its).flatten = acc ++ (List.replicate (k + 1) its).flatten := by
      rw [List.replicate_succ, List.flatten_cons, List.append_assoc]
    rw [← e2, ← foldl_rep its k (acc ++ its), ← e, List.replicate_succ, List.foldl_cons]

section
variable {X : Cx} {pins : List (Addr × Obj)} {σ : St} {H : Hp} {s : Shared} {l b : Addr} {xs ys zs : List V}

/-! ### the two steps: a tracked list is rewritten, a new list is laid -/
theorem Inv.lset {its its' : List Value} {n : Nat} {f : Array Value → Array Value} {t' : Nat} (I : Inv X pins σ H s) (hH : H l = some (.lst xs))
    (e : s.heap.get? l = some { cls := .type "list", data := .seq its.toArray n }) (hf : f its.toArray = its'.toArray) (hv : Vals ys its') (hz : ys.length ≤ sizeLine) :
    Inv X pins σ (upd H l (.lst ys)) { s with heap := s.heap.update l (Obj.mapSeq f), toks := t' } := by
  have q := PySem.IsL.update e f
  rw [hf] at q
  refine I.write (x := l) (e := l) (by rw [hH]; exact trivial) (.inl rfl) (fun b' u hb hu => (Heap.get?_update_other s.heap (Obj.mapSeq f) (Ne.symm hb)).trans hu) ⟨_, q⟩ ?_
  exact ⟨hz, its', _, hv, q⟩
theorem Inv.lnew {its : List Value} {t' : Nat} (I : Inv X pins σ H s) (hv : Vals ys its) (hz : ys.length ≤ sizeLine) :
    Inv X pins σ (upd H s.heap.objs.size (.lst ys)) { s with heap := s.heap.push { cls := .type "list", data := .seq its.toArray }, toks := t' } :=
  I.laid (fun _ _ q => Heap.get?_push_of_some _ q) (Nat.le_refl _) ⟨hz, its, 0, hv, Heap.get?_push_size _ rfl⟩
theorem Inv.fresh (I : Inv X pins σ H s) : H s.heap.objs.size = none := I.hok.fresh (Nat.le_refl _)
theorem Inv.lstM (I : Inv X pins σ H s) (hH : H l = some (.lst xs)) : xs.length ≤ sizeLine ∧ ∃ (its : List Value) (n : Nat), Vals xs its ∧ xs.length = its.length ∧ s.heap.get? l = some { cls := .type "list", data := .seq its.toArray n } := by
  obtain ⟨z, its, n, r, e⟩ := I.hok l _ hH
  exact ⟨z, its, n, r, r.length, e⟩

theorem notLongL {n : Nat} (h : n ≤ sizeLine) : Builtin.List.listTooLong n = false := by
  unfold Builtin.List.listTooLong
  exact decide_eq_false (by omega)
end

section
variable {X : Cx}

/-! ### methods -/
def rAppend : V → List V → Hp → VK → Prop := fun x vs H Q => ∃ l xs y, x = .ref l ∧ vs = [y] ∧ H l = some (.lst xs) ∧ xs.length < sizeLine ∧ Q .non (upd H l (.lst (xs ++ [y])))
theorem mt_append : MtM X "list.append" rAppend := by
  intro pins s σ H x vs v us Q I rx rv h
  obtain ⟨l, xs, y, rfl, rfl, hH, hz, q⟩ := h
  cases rx
  obtain ⟨u, rfl, ru⟩ := rv.one
  obtain ⟨z, its, n, r, hl, e⟩ := I.lstM hH
  refine call_meets F.slot_list_append ⟨_, e, rfl⟩ F.entry_list_append (F.args_list_append_2 _ _) (PySem.list_append l its.toArray n u (by rw [List.size_toArray]; omega)) ⟨e, ?_⟩
  refine ⟨.non, _, I.lset (its' := its ++ [u]) hH e (by simp) (r.append (.cons ru .nil)) ?_, rfl, q⟩
  rw [List.length_append, List.length_singleton]
  omega

def rExtend : V → List V → Hp → VK → Prop := fun x vs H Q => ∃ l b xs zs, x = .ref l ∧ vs = [.ref b] ∧ H l = some (.lst xs) ∧ H b = some (.lst zs) ∧ xs.length + zs.length ≤ sizeLine ∧ Q .non (upd H l (.lst (xs ++ zs)))
theorem mt_extend : MtM X "list.extend" rExtend := by
  intro pins s σ H x vs v us Q I rx rv h
  obtain ⟨l, b, xs, zs, rfl, rfl, hH, hB, hz, q⟩ := h
  cases rx
  obtain ⟨u, rfl, ru⟩ := rv.one
  cases ru
  obtain ⟨z, its, n, r, hl, e⟩ := I.lstM hH
  obtain ⟨z2, its2, n2, r2, hl2, e2⟩ := I.lstM hB
  have hsz : its.toArray.size + its2.toArray.size ≤ sizeLine := by rw [List.size_toArray, List.size_toArray]; omega
  have hlong : ¬ (!its.toArray.isEmpty && Builtin.List.listTooLong (its.toArray.size + its2.toArray.size)) = true := by
    rw [notLongL hsz, Bool.and_false]
    exact Bool.false_ne_true
  refine call_meets F.slot_list_extend ⟨_, e, rfl⟩ F.entry_list_extend (F.args_list_extend_2 _ _)
    (AutoSeq1.list_extend_list_list_0 l its.toArray n b its2.toArray n2 hlong (by rw [List.size_toArray]; omega) (by omega)) ⟨e, e2, ?_⟩
  refine ⟨.non, _, I.lset (its' := its ++ its2) hH e (by simp) (r.append r2) ?_, rfl, q⟩
  rw [List.length_append]
  omega





/-! ### list + list, list += list, list * int -/
def rCat : R2 := fun x y H Q => ∃ l b xs zs, x = .ref l ∧ y = .ref b ∧ H l = some (.lst xs) ∧ H b = some (.lst zs) ∧ xs.length + zs.length ≤ sizeLine ∧ ∀ p, H p = none → Q (.ref p) (upd H p (.lst (xs ++ zs)))
theorem op_cat : OpR X (binaryOp .Add) rCat := by
  intro pins s σ H x y v u Q I rx ry h
  obtain ⟨l, b, xs, zs, rfl, rfl, hH, hB, hz, q⟩ := h
  cases rx
  cases ry
  obtain ⟨z, its, n, r, hl, e⟩ := I.lstM hH
  obtain ⟨z2, its2, n2, r2, hl2, e2⟩ := I.lstM hB
  refine PySem.P.add_list e e2 ?_ (by rw [List.size_toArray, List.size_toArray]; omega)
  have ea : its.toArray ++ its2.toArray = (its ++ its2).toArray := by simp
  rw [ea]
  exact ⟨.ref _, _, I.lnew (t' := s.toks) (r.append r2) (by rw [List.length_append]; omega), rfl, q _ I.fresh⟩
/-- a list times an int (a negative one is nothing) -/
def rRep : R2 := fun x y H Q => ∃ l k xs, x = .ref l ∧ y = .int k ∧ H l = some (.lst xs) ∧ -(2 ^ 63) ≤ k ∧ k < 2 ^ 63 ∧ xs.length * k.toNat ≤ sizeLine ∧
  ∀ p, H p = none → Q (.ref p) (upd H p (.lst (List.replicate k.toNat xs).flatten))
theorem len_rep {α : Type} (xs : List α) (k : Nat) : (List.replicate k xs).flatten.length = k * xs.length := by
  induction k with
  | zero => simp
  | succ k ih => rw [List.replicate_succ, List.flatten_cons, List.length_append, ih, Nat.succ_mul, Nat.add_comm]
theorem op_rep : OpR X (binaryOp .Mult) rRep := by
  intro pins s σ H x y v u Q I rx ry h
  obtain ⟨l, k, xs, rfl, rfl, hH, h1, h2, hz, q⟩ := h
  cases rx
  obtain ⟨t, rfl⟩ := ry
  obtain ⟨z, its, n, r, hl, e⟩ := I.lstM hH
  have hlen : its.toArray.size * k.toNat ≤ sizeLine := by rw [List.size_toArray, ← hl]; exact hz
  have hcap : ¬ its.toArray.size * k.toNat > (2 ^ 63 - 1) / 8 := by
    have : (sizeLine : Nat) ≤ (2 ^ 63 - 1) / 8 := by decide
    omega
  have hfit : ¬ (!Builtin.List.listFitsIndex k) = true := by
    rw [fitsIndex_both h1 h2]
    exact Bool.false_ne_true
  have hlong : ¬ Builtin.List.listTooLong (its.toArray.size * k.toNat) = true := by
    rw [notLongL hlen]
    exact Bool.false_ne_true
  have hnew : List.foldl (fun x1 x2 => x1 ++ x2) #[] (List.replicate (if its.toArray.isEmpty = true then 0 else k.toNat) its.toArray) = (List.replicate k.toNat its).flatten.toArray := by
    have f0 : ∀ m : Nat, List.foldl (fun x1 x2 => x1 ++ x2) #[] (List.replicate m its.toArray) = (List.replicate m its).flatten.toArray := fun m => by
      have := foldl_rep its m []
      rw [List.nil_append] at this
      exact this
    rw [f0]
    cases its with
    | nil => simp
    | cons a r' => rw [if_neg (by simp)]
  refine wpAny_binaryOp_repeat_ref (T := "list") (U := "int") (by decide) ⟨_, e, rfl⟩ (fun s' => typeIs_int s' k t) noFill_list_mul F.fills_int_mul F.slot_int_rmul repeat_list F.slot_int_index.lookup
    (call_meets F.slot_int_rmul (typeIs_int s k t) F.entry_int_rmul (F.args_int_rmul_2 _ _) (int___rmul___int_list k t l its.toArray n)
      ⟨e, rfl, ⟨_, e, rfl⟩, call_meets F.slot_list_mul ⟨_, e, rfl⟩ F.entry_list_mul (F.args_list_mul_2 _ _) (AutoListH.list___mul___list_int_3 l its.toArray n k t hfit hcap hlong) ⟨e, ?_⟩⟩)
  rw [hnew]
  exact ⟨.ref _, _, I.lnew (t' := s.toks) (r.rep k.toNat) (by rw [len_rep, Nat.mul_comm]; exact hz), rfl, q _ I.fresh⟩

/-! ### del xs[i] -/
end

/-! ### xs[a:b] = ys -/
section
variable {prog : Program} {w : World} {A : Around} {E : Value → Shared → Prop} {s : Shared}
set_option maxRecDepth 100000 in
end

section
variable {X : Cx}
end
end L2

namespace Att
open PySem PySem.W PySem.Calls PyProof.Rows

/-! ### the script -/
theorem ints_of_wellAll {P : Params} {h : Heap} : ∀ (ns : List Int) (vs : List Value), WellAll P h vs (ns.map WData.int) → IntsAre vs ns := by
  intro ns
  induction ns with
  | nil =>
    intro vs w
    rw [List.map_nil] at w
    cases w
    exact .nil
  | cons n ns ih =>
    intro vs w
    rw [List.map_cons] at w
    cases w with
    | cons a b =>
      cases a
      exact .cons _ _ (ih _ b)

theorem script_of {l : OpenLaw} {n : Nat} (hn : l.most = some n) {P : Params} {h : Heap} {args : List WData} {vals : List Value}
    (hpre : l.row.toRowW.claim.pre args = true) (hwl : WellAll P h vals args) :
    ∃ a vs ns, vals = [Value.ref a] ∧ args = [WData.list (ns.map WData.int)] ∧ h.get? a = some { cls := .type "list", data := .seq vs.toArray } ∧ IntsAre vs ns ∧ ns.length ≤ n := by
  have hsh : WShape.hasAll [] args [.list .int] = true := (pre_splitW hpre).1
  have hc : l.pre.holds [] { args := args } = true := (pre_splitW hpre).2
  obtain ⟨d, r, rfl, h1, h2⟩ := hasAllW_cons hsh
  obtain rfl := hasAllW_nil h2
  obtain ⟨xs, rfl, h3⟩ := hasW_list h1
  obtain ⟨ns, rfl⟩ := items_int h3
  have hlen : ns.length ≤ n := by
    unfold OpenLaw.pre at hc
    have h4 : (WTm.not (.lt (.lit (.int (n : Int))) (.len (.arg 0)))).holds [] { args := [.list (ns.map .int)] } = true := by
      have h4 := (holds_andW hc).1
      rw [hn] at h4
      exact h4
    have h5 := condW_of h4 (w_not (w_lt w_lit (w_len_list (w_arg rfl))))
    rw [List.length_map] at h5
    refine Nat.le_of_not_lt fun q => ?_
    have q' : (n : Int) < ((ns.length : Nat) : Int) := by omega
    first
      | (rw [decide_eq_true q'] at h5; exact absurd h5 (by decide))
      | (simp at h5; omega)
  cases hwl with
  | cons w1 w2 =>
    cases w2
    cases w1 with
    | list ho hall => exact ⟨_, _, ns, rfl, rfl, ho, ints_of_wellAll ns _ hall, hlen⟩

theorem post_true (l : OpenLaw) (args : List WData) : l.row.toRowW.claim.post args (.bool true) args = true :=
  postW_of (r := l.row.toRowW) (X := (true == true))
    (show WShape.has [] (.bool true) .bool = true by first | rfl | decide | simp [WShape.has, WShape.arms, WShape.armsAll])
    (show (WTm.eq .res (.lit (.bool true))).value [] { args := args, res := some (.bool true), after := args } = some (.bool (true == true)) from w_eq_bool (w_res rfl) w_lit) rfl

/-! ### the attachment: holds_open's last premise (the goal 'hc' behind k_head) from a wpAny of the law's body -/

/-- the same from a codeAny of the CALL (for a layer whose function contracts speak of calls) -/
theorem attach_call {l : OpenLaw} {n : Nat} {q : Program} {loose : List Str} {XP : (Str → Option Value) → Heap → Prop} {YP : World → Heap → Prop} {d : DefRec}
    (hn : l.most = some n) (hdf : d.params.defaults = [])
    (call : ∀ (w : World) (s₀ s₁ : Shared) (mg mb : Str → Option Value) (fa : Addr) (o : Obj) (pm cd doc : Value) (a : Addr) (vs : List Value) (ns : List Int),
      Ground q loose [] XP w s₀ mg mb s₁.heap → YP w s₁.heap →
      s₁.heap.get? fa = some o → o.data = .func (docDef d.name d.params d.body d.scope pm cd doc) → s₁.heap.CodeRec cd d.name → mg d.name = some (.ref fa) →
      s₁.heap.get? a = some { cls := .type "list", data := .seq vs.toArray } → IntsAre vs ns → ns.length ≤ n → s₁.gens = #[] →
      codeAny (model l.prog w) callerA (.call (.ref fa) ⟨[.ref a], []⟩) (fun r s' => r = .ok (.ret (.bool true)) ∧ OldK s₁.heap s'.heap ∧ s'.os = s₁.os ∧ AllBare s'.gens) s₁) :
    WalkO q loose XP YP l.row.toRowW d [] (fun f vs => PySem.call f vs) := by
  intro w s₀ s₁ mg mb G Y fa o pm cd doc dV kV ho hd hcd hD hmg hg args vals as hpre hlay hrd hwl hlo
  obtain rfl : dV = .none := Dflts.none hD hdf
  obtain rfl : kV = .none := Dflts.noKw hD
  obtain ⟨a, vs, ns, rfl, rfl, hobj, hints, hlen⟩ := script_of hn hpre hwl
  refine enter_call (codeAny_mono (call w s₀ s₁ mg mb fa o pm cd doc a vs ns G Y ho (fd_plain hd) hcd hmg hobj hints hlen hg) fun r s' hq => ?_)
  obtain ⟨rfl, h2, h3, h4⟩ := hq
  exact ⟨.inl ⟨.bool true, .bool true, [], rfl, fun _ => rfl, .bool true, post_true l _, fun _ => ⟨List.Pairwise.nil, fun _ hm => (nomatch hm)⟩⟩, h2, h3, h4⟩


/-! ### rules over ANY heap (no ledger) from facts about the written part K: the library's own take a ledger (News) for what they write -/
section
variable {prog : Program} {w : World} {A : Around} {E : Value → Shared → Prop} {s : Shared} {K : Frag}





/-! the whole heap as the ledger: makes every rule that writes through a ledger a rule over any heap -/

end
end Att

namespace L2
open PySem PySem.Spec PyProof.Rows

theorem vals_ints : ∀ {vs : List Value} {ns : List Int}, IntsAre vs ns → Vals (ns.map V.int) vs
  | _, _, .nil => .nil
  | _, _, .cons n t h => .cons ⟨t, rfl⟩ (vals_ints h)

/-- nothing is tracked but the script, known to the object (or it is an object of the module) -/
def Only (H : Hp) : Prop := ∀ b, H b = none ∨ ∃ o xs, H b = some (.frz o (.lst xs))

/-- THE HEAD: the law's promise, at the heap behind the top. F, the promise of the law's def, may use that base is part of the heap (so K.In base, base.Ns mainGlobals mg stand in Mod) -/
theorem law_call {P : Program} {w : World} {K : PySem.W.Frag} {mg mb : Str → Option Value} {CX : CXT} {k : Nat} {fa a : Addr} {fd : FuncData} {x : Str} {sp : Sp} {s₁ : Shared} {vs : List Value} {ns : List Int}
    (KX : K.In s₁.heap) (hns : s₁.heap.Ns mainGlobals mg) (hb : s₁.heap.Ns builtinsNs mb) (hbb : ∀ x : Str, x ≠ "__name__" → mb x = bootBuiltins x) (hlim : s₁.heap.NoLimit) (hg : s₁.gens = #[])
    (ha : s₁.heap.get? a = some { cls := .type "list", data := .seq vs.toArray }) (hi : IntsAre vs ns) (hl : ns.length ≤ sizeLine) (hr : Room k callerA)
    (F : ∀ base : Heap, K.In base → base.Ns mainGlobals mg → FnOk P w K mg base CX k fa fd [x] sp) (hbind : ∀ (s : Shared) (u : Value), BindsTo s fd ⟨[u], []⟩ [(x, u)])
    (hsp : ∀ H : Hp, Only H → SqL K H a (ns.map V.int) → sp [.ref a] H (fun v _ => v = .bl true) fun _ _ _ => False)
    (hCX : ∀ H e s', CX [] H s₁ (fun _ _ _ => False) e s' → False) :
    codeAny (model P w) callerA (.call (.ref fa) ⟨[.ref a], []⟩) (fun r s' => r = .ok (.ret (.bool true)) ∧ OldK s₁.heap s'.heap ∧ s'.os = s₁.os ∧ AllBare s'.gens) s₁ := by
  have rv := vals_ints hi
  have lenV := hi.length
  -- from an abstract heap in which nothing but the script may be tracked
  have core : ∀ H : Hp, Only H → SqL K H a (ns.map V.int) → HOk P w H s₁.heap → (∀ b, H b ≠ none → b = a) → (H a ≠ none → K.lookup a = none) →
      codeAny (model P w) callerA (.call (.ref fa) ⟨[.ref a], []⟩) (fun r s' => r = .ok (.ret (.bool true)) ∧ OldK s₁.heap s'.heap ∧ s'.os = s₁.os ∧ AllBare s'.gens) s₁ := by
    intro H hO hS hok hA hK
    have base_of : ∀ {b : Addr} {o : Obj}, s₁.heap.get? b = some o → H b = none → (hidT s₁.heap H).get? b = some o := fun e n => hidT_get e n
    have noA : ∀ {b : Addr} {o : Obj} {es : Array DictEntry} {ep : Nat}, s₁.heap.get? b = some o → o.data = .dict es ep → H b = none := fun {b o es ep} e d => by
      cases q : H b with
      | none => rfl
      | some u =>
        have e' : b = a := hA b (by rw [q]; simp)
        subst e'
        rw [ha] at e; cases e
        have d' : Data.seq vs.toArray _ = Data.dict es ep := d
        cases d'
    have nsK : ∀ {b : Addr} {m : Str → Option Value}, s₁.heap.Ns b m → (hidT s₁.heap H).Ns b m := fun {b m} ⟨o, es, ep, e, d, r⟩ => ⟨o, es, ep, base_of e (noA e d), d, r⟩
    have hKb : K.In (hidT s₁.heap H) := fun b o e => base_of (KX b o e) (by
      cases q : H b with
      | none => rfl
      | some u =>
        have e' : b = a := hA b (by rw [q]; simp)
        subst e'
        rw [hK (by rw [q]; simp)] at e; cases e)
    have hM : Mod K mg (hidT s₁.heap H) := ⟨hKb, nsK hns, ⟨mb, nsK hb, hbb⟩, let ⟨mc, h1, h2⟩ := hlim; ⟨mc, nsK h1, h2⟩⟩
    have e0 : Env0 P w K mg (hidT s₁.heap H) callerA [] s₁ H := ⟨rfl, hM, fun b o e => of_hidT e, Nat.le_of_eq (hidT_size _ _), trivial, fun b hb => absurd (show b ∈ ([] : List Addr) from hb) (by simp), hok, .of_eq hg⟩
    refine codeAny_mono ((F _ hKb (nsK hns)).run callerA [] s₁ H ⟨[.ref a], []⟩ [.ref a] [.ref a] _ _ hr e0 (hbind s₁ (.ref a)) (.cons rfl .nil) (hsp H hO hS)) fun r s' h => ?_
    cases r with
    | error e => exact (hCX H e s' h).elim
    | ok fl =>
      cases fl with
      | next => exact False.elim h
      | brk => exact False.elim h
      | cont => exact False.elim h
      | ret u =>
        obtain ⟨v, H', os, bare, un, hok', r', q⟩ := h
        have q' : v = .bl true := q
        subst q'
        obtain rfl : u = Value.bool true := r'
        refine ⟨rfl, OldK.of_keep fun b o e => ?_, os, bare⟩
        cases q : H b with
        | none => exact un.keep b o e q (by intro z; exact absurd (show b ∈ ([] : List Addr) from z) (by simp)) (by simp)
        | some u =>
          rcases hO b with z | ⟨ob, xs, z⟩
          · rw [q] at z; cases z
          · have z2 := un.frzs b ob _ z
            obtain ⟨e1, _⟩ := hok b _ z
            obtain ⟨e2, _⟩ := hok' b _ z2
            rw [e] at e1; cases e1
            exact e2
  cases hk : K.lookup a with
  | some o =>
    -- the script is one of the module's own objects
    have e := KX a o hk
    rw [ha] at e
    cases e
    refine core (fun _ => none) (fun _ => .inl rfl) (.inr ⟨_, vs.toArray, _, hk, rfl, rfl, rfl, by rw [List.size_toArray, lenV]; exact hl, by simpa using rv⟩) (fun b u z => by have z' : (none : Option HO) = some u := z; cases z') (fun b z => absurd rfl z) fun z => absurd rfl z
  | none =>
    refine core (fun b => if b = a then some (.frz { cls := .type "list", data := .seq vs.toArray } (.lst (ns.map V.int))) else none) (fun b => ?_) (.inl (.inr ⟨{ cls := .type "list", data := .seq vs.toArray }, if_pos rfl⟩)) (fun b u z => ?_) (fun b z => ?_) fun _ => hk
    · by_cases hb : b = a
      · exact .inr ⟨_, _, if_pos hb⟩
      · exact .inl (if_neg hb)
    · by_cases hb : b = a
      · have z' := (if_pos hb).symm.trans z
        cases z'
        subst hb
        exact ⟨ha, by rw [List.length_map]; exact hl, vs, _, rv, ha⟩
      · have z' := (if_neg hb).symm.trans z
        cases z'
    · by_cases hb : b = a
      · exact hb
      · exact absurd (if_neg hb) z
end L2

namespace L2
open PySem PySem.Spec PyProof.Rows


/-- the goal that k_head leaves (case hc), from the law's promise. F gives the function object fd (K's own) once, then the promise over every base -/
theorem walk_of {l : PySem.W.OpenLaw} {n k : Nat} {q : Program} {loose : List Str} {XP : (Str → Option Value) → Heap → Prop} {YP : World → Heap → Prop} {d : DefRec} {K : Params → PySem.W.Frag} {CX : World → CXT} {sp : World → Sp} {x : Str}
    (hn : l.most = some n) (hn2 : n ≤ sizeLine) (hdf : d.params.defaults = []) (hr : Room k callerA)
    (hY : ∀ (w : World) (h : Heap), YP w h → (K w.params).In h)
    (F : ∀ (w : World) (mg : Str → Option Value) (fa : Addr) (h : Heap), (K w.params).In h → h.Ns mainGlobals mg → mg d.name = some (.ref fa) →
      ∃ fd : FuncData, (∀ (s : Shared) (u : Value), BindsTo s fd ⟨[u], []⟩ [(x, u)]) ∧
        ∀ base : Heap, (K w.params).In base → base.Ns mainGlobals mg → FnOk l.prog w (K w.params) mg base (CX w) k fa fd [x] (sp w))
    (hsp : ∀ (w : World) (H : Hp) (a : Addr) (ns : List Int), ns.length ≤ n → Only H → SqL (K w.params) H a (ns.map V.int) → sp w [.ref a] H (fun v _ => v = .bl true) fun _ _ _ => False)
    (hCX : ∀ (w : World) (H : Hp) (s : Shared) (e : Value) (s' : Shared), CX w [] H s (fun _ _ _ => False) e s' → False) :
    PySem.W.WalkO q loose XP YP l.row.toRowW d [] (fun f vs => PySem.call f vs) := by
  refine Att.attach_call hn hdf fun w s₀ s₁ mg mb fa o pm cd doc a vs ns G Y ho hd hcd hmg hobj hints hlen hg => ?_
  have KX := hY w _ Y
  obtain ⟨fd, hb, hF⟩ := F w mg fa _ KX G.T.g hmg
  exact law_call KX G.T.g G.T.b G.T.builtins G.T.nolimit hg hobj hints (Nat.le_trans hlen hn2) hr hF hb (fun H hO hS => hsp w H a ns hlen hO hS) fun H e s' => hCX w H s₁ e s'
end L2

/- THE LAST THEOREM (shape; LID, My.* are yours):
   My.Adr: a structure of the addresses that your layer names (classes, functions); My.Txt K t: a structure (Prop) of the equations over K;
   My.txt_mk : {K} {implicit addresses ..} (e1 : nsIn K mainGlobals "law" = some (some (.ref f))) (e2 : K.lookup f = some ⟨oc, od, .func (fnOf "law" "law" params body scope dV kV doc pm an cdv ct), sl⟩) (e3 : codeIn K cdv "law" = true) .. : ∃ t, My.Txt K t

set_option maxRecDepth 100000 in
set_option maxHeartbeats 0 in
theorem PySem.Challenge.cw_LID_holds : PySem.Challenge.rw_LID.Holds := by
  w_on; o_law; k_head; (case hw => w_witness2)
  k_fill
  refine L2.walk_of (l := PySem.Challenge.rw_LID) (n := 63) (k := 40) (x := "script") (CX := fun w => ..) (sp := fun _ => My.sp_law) rfl (by decide) rfl ⟨rfl, by decide, by decide⟩ (fun w h Y => PySem.W.kIn_of Y) ?F ?S ?C
  case F =>
    intro w mg fa h KX G hmg
    have T : ∃ t, My.Txt (L2.KOf KX) t := by
      dsimp only [L2.KOf]                          -- K must stand as «<heap const> w.params» for k_is
      refine' My.txt_mk ?e1 ?e2 ?e3 ..
      (case e1 => PySem.W.k_is)                    -- in the order: a name -> its address -> its object -> its parts
      (case e2 => PySem.W.k_is)
      ..
    obtain ⟨t, T⟩ := T
    have e0 := hmg.symm.trans (PySem.W.mg_of KX G T.law)
    cases e0                                       -- fa is the law's own address
    exact ⟨_, fun s u => .of_eq rfl, fun base kb nb => My.law_fn T kb nb⟩     -- if «.of_eq rfl» comes too early: refine' ⟨_, ?b, fun base kb nb => My.law_fn T kb nb⟩; exact fun s u => .of_eq rfl
  case S => exact fun w H a ns hl hO hS => ..
  case C => exact ..
(the tactic k_is has no namespace: write k_is) -/

/-! SHORT WORDS over the layer: a def of the text, its body, what a loop and a test want. -/
namespace L2
open PySem PySem.Spec PyProof.Rows

/-! ### the text by places -/
/-- the j-th statement of a class's body -/
def inClass (s : Stmt) (j : Nat) : Stmt := match s with
  | .ClassDef _ _ _ body _ _ _ _ _ _ _ => body.getD j (.Pass ⟨0, 0, 0, 0⟩)
  | _ => .Pass ⟨0, 0, 0, 0⟩
def defArgs (s : Stmt) : Arguments := match s with
  | .FunctionDef _ a _ _ _ _ _ _ _ _ => a
  | _ => { posonlyargs := [], args := [], vararg := none, kwonlyargs := [], kw_defaults := [], kwarg := none, defaults := [] }
def defBody (s : Stmt) : List Stmt := match s with
  | .FunctionDef _ _ b _ _ _ _ _ _ _ => b
  | _ => []
def defScope (s : Stmt) : Scope := match s with
  | .FunctionDef _ _ _ _ _ _ sc _ _ _ => sc
  | _ => { kind := .function, names := [], isGenerator := false, isCoroutine := false }

/-! ### no exception leaves a def -/
abbrev CX0 : CXT := fun _ _ _ _ _ _ => False
abbrev E0 : XK := fun _ _ _ => False
theorem pass0 {X : Cx} : Passes CX0 X E0 := fun _ _ _ _ _ _ _ h => h.elim

/-! ### a def (or method) of the text as it stands behind the top -/
structure Fun (K : PySem.W.Frag) (x qual : Str) (st : Stmt) (f : Addr) (fd : FuncData) : Prop where
  ex : ∃ (oc : Value) (od : Option Addr) (kV doc pm : Value) (an : Option Addr) (cdv ct : Value) (osl : Array (Option Value)),
    fd = PySem.W.fnOf x qual (defArgs st) (defBody st) (defScope st) .none kV doc pm an cdv ct ∧ K.lookup f = some ⟨oc, od, .func fd, osl⟩ ∧ PySem.W.codeIn K cdv qual = true
  kp : PySem.W.keepIn K (.ref f) = true
section
variable {P : Program} {w : World} {K : PySem.W.Frag} {mg : Str → Option Value} {base : Heap}
/-- THE RULE for a def: its body as a term of rules, and the reading of that term -/
theorem Fun.ok {x qual : Str} {st : Stmt} {f : Addr} {fd : FuncData} {N ps : List Str} {k : Nat} {sp : Sp} (F : Fun K x qual st f fd) (S : FnScope N ps (defScope st)) (len : ∀ vs H Q E, sp vs H Q E → vs.length = ps.length)
    (hbody : ∀ (cdv : Value) (A : Around) (outer : List Env) (s : Shared) (H : Hp) (vs : List V) (Q : VK) (E : XK), Room k (A.deeper (envOfC qual (defScope st) s.heap.objs.size f cdv)) → sp vs H Q E →
      ∃ t, PSs (cxOf CX0 P w K mg base N qual (defScope st) f cdv A outer s H E).nox (defBody st) t ∧ t { nx := fun _ H' => Q .non H', rt := Q } (start N vs) H) : FnOk P w K mg base CX0 (k + 1) f fd ps sp := by
  obtain ⟨oc, od, kV, doc, pm, an, cdv, ct, osl, rfl, lk, hcd⟩ := F.ex
  refine fn_of lk hcd S len fun A outer s H vs Q E hr hsp => ?_
  obtain ⟨t, h, q⟩ := hbody cdv A outer s H vs Q E hr hsp
  exact ⟨t, h.nox, q⟩
/-- how its arguments bind (no defaults): h is «fun _ _ _ _ _ _ us hl => match us, hl with | [_, _], _ => rfl», one _ a parameter -/
theorem Fun.binds {x qual : Str} {st : Stmt} {f : Addr} {fd : FuncData} {ps : List Str} (F : Fun K x qual st f fd)
    (h : ∀ (kV doc pm : Value) (an : Option Addr) (cdv ct : Value) (us : List Value), us.length = ps.length → bindArgs (PySem.W.fnOf x qual (defArgs st) (defBody st) (defScope st) .none kV doc pm an cdv ct) ⟨us, []⟩ = pure (ps.zip us)) : Binds K fd ps [] := by
  obtain ⟨oc, od, kV, doc, pm, an, cdv, ct, osl, rfl, lk, hcd⟩ := F.ex
  exact .all (h kV doc pm an cdv ct)
theorem fun_mk {x qual : Str} {st : Stmt} {f : Addr} {oc : Value} {od an : Option Addr} {osl : Array (Option Value)} {kV doc pm cdv ct : Value} (l : K.lookup f = some ⟨oc, od, .func (PySem.W.fnOf x qual (defArgs st) (defBody st) (defScope st) .none kV doc pm an cdv ct), osl⟩)
    (c : PySem.W.codeIn K cdv qual = true) (k : PySem.W.keepIn K (.ref f) = true) : Fun K x qual st f (PySem.W.fnOf x qual (defArgs st) (defBody st) (defScope st) .none kV doc pm an cdv ct) := ⟨⟨oc, od, kV, doc, pm, an, cdv, ct, osl, rfl, l, c⟩, k⟩
end
theorem hu_of {A : Around} {k : Nat} (hr : Room k A) : A.units + 1 < cLine := Nat.lt_of_le_of_lt (Nat.add_le_add_left (by decide : 1 ≤ 64) _) hr.units

/-! ### expressions in short: the name that stands in the i-th slot -/
section
variable {X : Cx}
theorem pv (i : Nat) {x : Str} {pos : Pos} (hN : X.N[i]? = some x := by rfl) (hv : Vis X.env.scope x := by first | exact Or.inl rfl | exact Or.inr (Or.inl rfl) | exact Or.inr (Or.inr rfl)) (hd : (x == ("__debug__" : Str)) = false := by decide)
    (hcd : (x == ("__classdict__" : Str)) = false := by decide) : PE X (.Name x pos) (tVar i) := pe_var hN hv hd hcd
end

/-! ### tests -/
theorem iteF {A B : Prop} (h : B) : if false = true then A else B := by
  rw [if_neg Bool.false_ne_true]
  exact h
theorem iteT {A B : Prop} (h : A) : if true = true then A else B := by
  rw [if_pos rfl]
  exact h

/-! ### heaps -/
/-- all that was tracked is as it was -/
def Same (H H' : Hp) : Prop := ∀ b o, H b = some o → H' b = some o
theorem Same.refl (H : Hp) : Same H H := fun _ _ h => h
theorem Same.trans {H H1 H2 : Hp} (a : Same H H1) (b : Same H1 H2) : Same H H2 := fun c o h => b c o (a c o h)
theorem Same.free {H H' : Hp} (e : Same H H') {l : Addr} (h : H' l = Option.none) : H l = Option.none := by
  cases q : H l with
  | none => rfl
  | some o =>
    rw [e l o q] at h
    cases h
theorem Same.seq {K : PySem.W.Frag} {H H' : Hp} {a : Addr} {xs : List V} (e : Same H H') (h : SqL K H a xs) : SqL K H' a xs := by
  rcases h with (h | ⟨o, h⟩) | h
  · exact .inl (.inl (e _ _ h))
  · exact .inl (.inr ⟨o, e _ _ h⟩)
  · exact .inr h

end L2

set_option linter.all false
namespace L2
/-! ### broken words, as lists of codes -/
def joinL (sep : List Nat) : List (List Nat) → List Nat
  | [] => []
  | [x] => x
  | x :: y :: r => x ++ sep ++ joinL sep (y :: r)
theorem joinL_nil : ∀ ls : List (List Nat), joinL [] ls = ls.flatten
  | [] => rfl
  | [x] => by simp [joinL]
  | x :: y :: r => by
    have := joinL_nil (y :: r)
    simp only [joinL, this, List.append_nil, List.flatten_cons]
/-- the gaps rise, and lie within -/
def Rise (b n : Nat) : List Nat → Prop
  | [] => True
  | g :: gs => b < g ∧ g < n ∧ Rise g n gs
/-! reading -/
def isLow (c : Nat) : Bool := decide (97 ≤ c ∧ c ≤ 122)
def Low (l : List Nat) : Prop := ∀ c ∈ l, isLow c = true
structure RS where
  w : List Nat
  g : List Nat
  lacks : Bool
end L2

set_option linter.all false
namespace L2
open PySem PySem.Builtin PySem.Builtin.Str
/-! ### texts as lists of codes -/
def S (l : List Nat) : Str := ⟨l.toArray⟩
theorem S_cps (l : List Nat) : (S l).cps.toList = l := rfl
theorem S_length (l : List Nat) : (S l).length = l.length := by show l.toArray.size = _; simp
theorem S_append (a b : List Nat) : S a ++ S b = S (a ++ b) := by
  show (⟨a.toArray ++ b.toArray⟩ : Str) = ⟨(a ++ b).toArray⟩
  rw [List.append_toArray]
theorem S_inj {a b : List Nat} (h : S a = S b) : a = b := by
  have := congrArg (fun z : Str => z.cps.toList) h
  exact this
/-- a slice's bound as a place among n -/
def sx (n d : Nat) : Option Int → Nat
  | none => d
  | some v => if v < 0 then (v + (n : Int)).toNat else min v.toNat n
def cutA {α : Type} (l : List α) (lo hi : Option Int) : List α := (l.drop (sx l.length 0 lo)).take (sx l.length l.length hi - sx l.length 0 lo)
theorem sx_le (n d : Nat) (hd : d ≤ n) (o : Option Int) : sx n d o ≤ n := by
  cases o with
  | none => exact hd
  | some v => simp only [sx]; split <;> omega
theorem sliceIx (lo hi : Option Int) (n : Nat) : strSliceIndices lo hi 1 n = (List.range (sx n n hi - sx n 0 lo)).map (sx n 0 lo + ·) := by
  have key : ∀ (a c : Nat), sliceRange (a : Int) (c : Int) 1 = (List.range (c - a)).map (a + ·) := fun a c => by
    unfold sliceRange
    have e : (if (1 : Int) > 0 then (if (a : Int) < (c : Int) then ((c : Int) - a + 1 - 1) / 1 else 0) else (if (a : Int) > (c : Int) then ((a : Int) - c - 1 - 1) / (-1) else 0)).toNat = c - a := by
      rw [if_pos (by decide)]
      split
      · rw [Int.ediv_one]; omega
      · omega
    simp only [e]
    apply List.map_congr_left
    intro k _
    omega
  have cl : ∀ v : Int, max 0 (min (if v < 0 then v + (n : Int) else v) (n : Int)) = (((if v < 0 then (v + (n : Int)).toNat else min v.toNat n) : Nat) : Int) := fun v => by
    by_cases hv : v < 0
    · simp only [if_pos hv]; omega
    · simp only [if_neg hv]; omega
  unfold strSliceIndices
  have h1 : ((1 : Int) > 0) = True := by simp
  cases lo with
  | none =>
    cases hi with
    | none => simp only [h1, if_true]; exact key 0 n
    | some v => simp only [h1, if_true, cl]; exact key 0 _
  | some u =>
    cases hi with
    | none => simp only [h1, if_true, cl]; exact key _ n
    | some v => simp only [h1, if_true, cl]; exact key _ _
theorem pickL (l : List Nat) : ∀ (m a : Nat), a + m ≤ l.length → ((List.range m).map (a + ·)).filterMap (l.toArray[·]?) = (l.drop a).take m
  | 0, a, _ => by simp
  | m + 1, a, h => by
    have ha : a < l.length := by omega
    rw [List.range_succ_eq_map, List.map_cons, List.filterMap_cons, List.map_map]
    have e : ((a + ·) ∘ Nat.succ) = ((a + 1) + ·) := by funext k; simp; omega
    have := pickL l m (a + 1) (by omega)
    rw [e, this, List.drop_eq_getElem_cons ha, List.take_succ_cons]
    simp [ha]
theorem slice_raw (l : List Nat) (lo hi : Option Int) :
    (if ((1 : Int) == 1 && (strSliceIndices lo hi 1 (S l).length).length == (S l).length) = true then S l else ⟨((strSliceIndices lo hi 1 (S l).length).filterMap ((S l).cps[·]?)).toArray⟩ : Str) = S (cutA l lo hi) := by
  have h1 := sx_le l.length l.length (Nat.le_refl _) hi
  have h2 := sx_le l.length 0 (Nat.zero_le _) lo
  rw [S_length, sliceIx]
  unfold cutA
  generalize sx l.length l.length hi = c at *
  generalize sx l.length 0 lo = a at *
  split
  · rename_i hc
    simp only [List.length_map, List.length_range, beq_self_eq_true, Bool.true_and, beq_iff_eq] at hc
    by_cases h0 : l.length = 0
    · have : l = [] := List.length_eq_zero_iff.mp h0
      subst this; simp
    · have ha : a = 0 := by omega
      have hc' : c = l.length := by omega
      subst ha hc'
      simp
  · by_cases hac : a ≤ c
    · show S _ = S _
      congr 1
      exact pickL l _ a (by omega)
    · have : c - a = 0 := by omega
      rw [this]
      simp [S]
theorem joinS (sep : List Nat) : ∀ ls : List (List Nat), Str.join (S sep) (ls.map S) = S (joinL sep ls)
  | [] => rfl
  | [x] => rfl
  | x :: y :: r => by
    have ih := joinS sep (y :: r)
    show S x ++ S sep ++ Str.join (S sep) ((y :: r).map S) = _
    rw [ih, S_append, S_append]
    rfl
end L2

set_option linter.all false
namespace L2
/-! ### values: the plain reading -/
abbrev Pat := List Nat × List Int
def frame (w : List Nat) : List Nat := 46 :: (w ++ [46])
theorem frame_length (w : List Nat) : (frame w).length = w.length + 2 := by simp [frame]
/-! the other reading: only the gaps are kept -/
/-! places, one behind the other -/
/-! ### the greatest number: facts -/
end L2

namespace L2
open PySem
def clTo (cells : List (Str × Addr)) : List (Str × NameKind) → List (Str × Addr) → List (Str × Addr)
  | [], acc => acc
  | (n, k) :: r, acc => if k == .free then clTo cells r ((n, (cells.lookup n).getD 0) :: acc) else clTo cells r acc
theorem closureFor_to {scope : Scope} {env : Env} (h : ∀ y ∈ scope.names, y.2 = .free → ∃ c, env.cells.lookup y.1 = some c) :
    closureFor scope env = pure (clTo env.cells scope.names []) := by
  simp only [closureFor]
  generalize ([] : List (Str × Addr)) = acc
  revert h
  generalize scope.names = l
  intro h
  have key : ∀ (l : List (Str × NameKind)) (acc : List (Str × Addr)), (∀ y ∈ l, y.2 = .free → ∃ c, env.cells.lookup y.1 = some c) →
      (forIn l acc (fun x r => if (x.snd == NameKind.free) = true then do
            let a ← cellOf env x.fst
            pure (ForInStep.yield ((x.fst, a) :: r)) else pure (ForInStep.yield r)) : Sem _) = pure (clTo env.cells l acc) := by
    intro l
    induction l with
    | nil => intro acc _; rfl
    | cons y l ih =>
      intro acc h
      obtain ⟨n, k⟩ := y
      rw [List.forIn_cons]
      have hr := fun y hy => h y (List.mem_cons_of_mem _ hy)
      by_cases hk : (k == NameKind.free) = true
      · obtain ⟨c, hc⟩ := h (n, k) List.mem_cons_self (by simpa using hk)
        have hc' : env.cells.lookup n = some c := hc
        have e1 : cellOf env n = pure c := by unfold cellOf; rw [hc']
        simp only [hk, if_true, e1, clTo, hc', Option.getD_some, pure_bind]
        exact ih _ hr
      · simp only [Bool.not_eq_true] at hk
        simp only [hk, Bool.false_eq_true, if_false, clTo, pure_bind]
        exact ih _ hr
  rw [key l acc h]
  rfl
theorem clTo_free {cells : List (Str × Addr)} {x : Str} : ∀ (l : List (Str × NameKind)) (acc : List (Str × Addr)), ((x, NameKind.free) ∈ l ∨ acc.lookup x = some ((cells.lookup x).getD 0)) →
    (clTo cells l acc).lookup x = some ((cells.lookup x).getD 0)
  | [], acc, h => by
    rcases h with h | h
    · cases h
    · exact h
  | (n, k) :: r, acc, h => by
    unfold clTo
    by_cases hk : (k == NameKind.free) = true
    · rw [if_pos hk]
      refine clTo_free r _ ?_
      by_cases e : x = n
      · subst e; right; simp
      · rcases h with h | h
        · left
          rcases List.mem_cons.mp h with h | h
          · injection h with h1 _; exact absurd h1 e
          · exact h
        · right
          rw [List.lookup_cons, beq_eq_false_iff_ne.mpr e]; exact h
    · rw [if_neg hk]
      refine clTo_free r _ ?_
      rcases h with h | h
      · left
        rcases List.mem_cons.mp h with h | h
        · injection h with _ h2; rw [← h2] at hk; exact absurd rfl hk
        · exact h
      · exact .inr h
theorem clTo_of {cells : List (Str × Addr)} {x : Str} {c : Addr} : ∀ (l : List (Str × NameKind)) (acc : List (Str × Addr)), (clTo cells l acc).lookup x = some c →
    acc.lookup x = some c ∨ ((x, NameKind.free) ∈ l ∧ c = (cells.lookup x).getD 0)
  | [], acc, h => .inl h
  | (n, k) :: r, acc, h => by
    unfold clTo at h
    by_cases hk : (k == NameKind.free) = true
    · rw [if_pos hk] at h
      rcases clTo_of r _ h with q | ⟨q1, q2⟩
      · by_cases e : x = n
        · subst e
          rw [List.lookup_cons, beq_self_eq_true] at q
          have hk' : k = .free := by simpa using hk
          subst hk'
          exact .inr ⟨List.mem_cons_self, (Option.some.inj q).symm⟩
        · rw [List.lookup_cons, beq_eq_false_iff_ne.mpr e] at q
          exact .inl q
      · exact .inr ⟨List.mem_cons_of_mem _ q1, q2⟩
    · rw [if_neg hk] at h
      rcases clTo_of r _ h with q | ⟨q1, q2⟩
      · exact .inl q
      · exact .inr ⟨List.mem_cons_of_mem _ q1, q2⟩
section
variable {prog : Program} {w : World} {A : Around}
  {R : Result → Shared → Prop} {s : Shared}
theorem compLoop_any {M : Model} (hM : M = model prog w) {elt target iter : Expr} {ifs : List Expr} {scope : Scope} {pos : Pos} {it acc : Value} {env : Env} (I : Nat → Shared → Prop)
    (turn : ∀ n s, I n s → wpAny M A (pyNext it) (fun r z₁ => match r with
      | none => R (.ok .next) z₁
      | some v => wpAny M A (letOwnedTupleGo target it v) (fun _ z₀ => wpAny M A (assign target env v) (fun _ z₂ =>
          wpAny M A (forIn ifs true fun c r => if r = true then do let ok ← isTrue c env (eval c env); pure (ForInStep.yield ok) else pure (ForInStep.yield r)) (fun ok z₃ =>
            if ok = true then wpAny M A (eval elt env) (fun x z₄ =>
              wpAny M A (call (.builtin "list.append") [acc, x]) (fun _ z₅ => ∃ m, m < n ∧ I m z₅) (notedBy M A env fun e s' => R (.error e) s') z₄) (notedBy M A env fun e s' => R (.error e) s') z₃
            else ∃ m, m < n ∧ I m z₃) (notedBy M A env fun e s' => R (.error e) s') z₂) (notedBy M A env fun e s' => R (.error e) s') z₀) (notedBy M A env fun e s' => R (.error e) s') z₁) (notedBy M A env fun e s' => R (.error e) s') s)
    (n : Nat) (h : I n s) :
    codeAny M A (.compLoop (.ListComp elt [⟨target, iter, ifs, 0⟩] scope pos) 0 it acc env) R s := by
  subst hM
  refine codeAny_loop rfl I (fun k z hz => ?_) n h
  show wpAny _ A (Sem.onRaise (compTurn (.ListComp elt [⟨target, iter, ifs, 0⟩] scope pos) 0 it acc env) _) _ _ z
  rw [compTurn_list]
  refine wpAny_noted (wpAny_bind (wpAny_standAt (wpAny_bind (wpAny_mono (turn k z hz) (fun r z1 g1 => ?_) fun _ _ e => e))))
  match r, g1 with
  | none, g1 => exact wpAny_pure g1
  | some v, g1 =>
    refine wpAny_bind (wpAny_mono g1 (fun _ z2 g2 => wpAny_bind (wpAny_mono g2 (fun _ z3 g3 => wpAny_bind (wpAny_mono g3 (fun b z4 g4 => ?_) fun _ _ e => e)) fun _ _ e => e)) fun _ _ e => e)
    match b, g4 with
    | false, g4 => exact wpAny_pure ⟨rfl, g4⟩
    | true, g4 =>
      refine wpAny_bind (wpAny_bind (wpAny_mono g4 (fun y z5 g5 => wpAny_bind (wpAny_mono g5 (fun _ z6 g6 => ?_) fun _ _ e => e)) fun _ _ e => e))
      exact wpAny_pure (wpAny_pure ⟨rfl, g6⟩)
end
end L2

set_option Elab.async false
set_option linter.all false
set_option maxRecDepth 100000
namespace L2
open PySem PySem.Spec PyProof.Rows

/-! ### a list comprehension -/
def pick1 (σ : St) : Option Nat → Option V
  | none => none
  | some j => match σ[j]? with
    | some (some v) => some v
    | _ => none
def pick (ix : List (Option Nat)) (σ : St) : St := ix.map (pick1 σ)
theorem pick_get {ix : List (Option Nat)} {σ : St} {i : Nat} {v : V} (h : (pick ix σ)[i]? = some (some v)) : ∃ j, ix[i]? = some (some j) ∧ σ[j]? = some (some v) := by
  unfold pick at h
  rw [List.getElem?_map] at h
  cases e : ix[i]? with
  | none => rw [e] at h; cases h
  | some o =>
    rw [e] at h
    have h' : pick1 σ o = some v := Option.some.inj h
    cases o with
    | none => cases h'
    | some j =>
      refine ⟨j, rfl, ?_⟩
      unfold pick1 at h'
      dsimp only at h'
      split at h'
      · rename_i q; rw [q, h']
      · cases h'
def cxComp (X : Cx) (pins : List (Addr × Obj)) (scope : Scope) (N' : List Str) (fp : List Addr) (s3 : Shared) (H3 : Hp) : Cx where
  prog := X.prog
  w := X.w
  K := X.K
  mg := X.mg
  base := X.base
  A := X.A
  N := N'
  s₀ := s3
  H₀ := H3
  env := compEnvC scope (clTo X.env.cells scope.names []) s3.heap.objs.size X.env
  outer := X.stack
  stack := X.stack
  ex := fp
  fn := fun _ => false
  calm := X.calm
  pn := X.pn ++ pins
  xe := fun _ _ => False
def linkOk (names : List (Str × NameKind)) (N : List Str) : List (Option Nat) → List Str → Bool
  | [], [] => true
  | none :: r, _ :: q => linkOk names N r q
  | some j :: r, x :: q => N[j]? == some x && names.lookup x == some .free && linkOk names N r q
  | _, _ => false
def compOk (sc : Scope) (N : List Str) (scope : Scope) (N' : List Str) (ix : List (Option Nat)) : Bool :=
  scope.names.all (fun y => y.2 != .cell) && scope.names.all (fun y => y.2 != .local || scope.names.lookup y.1 == some .local)
    && scope.names.all (fun y => y.2 != .free || (sc.names.lookup y.1 == some .cell || sc.names.lookup y.1 == some .free)) && linkOk scope.names N ix N'
theorem linkOk_len {names : List (Str × NameKind)} {N : List Str} : ∀ {ix : List (Option Nat)} {N' : List Str}, linkOk names N ix N' = true → ix.length = N'.length
  | [], [], _ => rfl
  | none :: r, _ :: q, h => by simp only [linkOk] at h; simp [linkOk_len h]
  | some j :: r, x :: q, h => by simp only [linkOk, Bool.and_eq_true] at h; simp [linkOk_len h.2]
  | [], _ :: _, h => by simp [linkOk] at h
  | none :: _, [], h => by simp [linkOk] at h
  | some _ :: _, [], h => by simp [linkOk] at h
theorem linkOk_get {names : List (Str × NameKind)} {N : List Str} : ∀ {ix : List (Option Nat)} {N' : List Str} {i j : Nat} {x : Str}, linkOk names N ix N' = true → ix[i]? = some (some j) → N'[i]? = some x →
    N[j]? = some x ∧ names.lookup x = some .free
  | [], [], _, _, _, _, e, _ => by simp at e
  | none :: r, _ :: q, 0, _, _, _, e, _ => by simp at e
  | none :: r, _ :: q, i + 1, _, _, h, e, e' => by
    simp only [linkOk] at h
    exact linkOk_get h (by simpa using e) (by simpa using e')
  | some j :: r, x :: q, 0, _, _, h, e, e' => by
    simp only [linkOk, Bool.and_eq_true] at h
    simp at e e'
    subst e; subst e'
    exact ⟨by simpa using h.1.1, by simpa using h.1.2⟩
  | some j :: r, x :: q, i + 1, _, _, h, e, e' => by
    simp only [linkOk, Bool.and_eq_true] at h
    exact linkOk_get h.2 (by simpa using e) (by simpa using e')
  | [], _ :: _, _, _, _, h, _, _ => by simp [linkOk] at h
  | none :: _, [], _, _, _, h, _, _ => by simp [linkOk] at h
  | some _ :: _, [], _, _, _, h, _, _ => by simp [linkOk] at h
theorem mem_of_lookup {α β : Type} [BEq α] [LawfulBEq α] {x : α} {k : β} : ∀ {l : List (α × β)}, l.lookup x = some k → (x, k) ∈ l
  | [], h => by cases h
  | (n, k') :: r, h => by
    rw [List.lookup_cons] at h
    by_cases e : x == n
    · rw [e] at h
      have e' : x = n := by simpa using e
      cases h
      rw [e']; exact List.mem_cons_self
    · have e' : (x == n) = false := by simpa using e
      rw [e'] at h
      exact List.mem_cons_of_mem _ (mem_of_lookup h)
/-- the names as a comprehension's block sees them -/
theorem relabel_back {env : Env} {x : Str} {k : NameKind} : ∀ {names : List (Str × NameKind)}, (∀ y ∈ names, y.2 ≠ .cell) →
    (names.map fun (n, k) => if (k == NameKind.free && env.scope.kind == .function && env.kindOf n == some .cell) then (n, NameKind.cell) else (n, k)).lookup x = some k → (k = .cell ∨ k = .free) → (x, NameKind.free) ∈ names
  | [], _, h, _ => by cases h
  | (n, k') :: r, hc, h, hk => by
    rw [List.map_cons] at h
    have hc' := fun y hy => hc y (List.mem_cons_of_mem _ hy)
    have hk' : k' ≠ .cell := hc (n, k') List.mem_cons_self
    by_cases e : x = n
    · subst e
      dsimp only at h
      split at h
      · rename_i q
        rw [List.lookup_cons, beq_self_eq_true] at h
        have : k' = .free := by simp only [Bool.and_eq_true] at q; simpa using q.1.1
        subst this; exact List.mem_cons_self
      · rw [List.lookup_cons, beq_self_eq_true] at h
        have hkk : k' = k := Option.some.inj h
        subst hkk
        rcases hk with z | z
        · exact absurd z hk'
        · subst z; exact List.mem_cons_self
    · have e' : (x == n) = false := beq_eq_false_iff_ne.mpr e
      refine List.mem_cons_of_mem _ (relabel_back (env := env) hc' ?_ hk)
      dsimp only at h
      split at h
      · rw [List.lookup_cons, e'] at h; exact h
      · rw [List.lookup_cons, e'] at h; exact h
theorem relabel_free {env : Env} {x : Str} : ∀ {names : List (Str × NameKind)}, names.lookup x = some .free →
    (names.map fun (n, k) => if (k == NameKind.free && env.scope.kind == .function && env.kindOf n == some .cell) then (n, NameKind.cell) else (n, k)).lookup x = some .cell ∨
    (names.map fun (n, k) => if (k == NameKind.free && env.scope.kind == .function && env.kindOf n == some .cell) then (n, NameKind.cell) else (n, k)).lookup x = some .free
  | [], h => by cases h
  | (n, k') :: r, h => by
    rw [List.map_cons]
    rw [List.lookup_cons] at h
    by_cases e : x = n
    · subst e
      rw [beq_self_eq_true] at h
      have hk : k' = .free := Option.some.inj h
      subst hk
      dsimp only
      split
      · left; rw [List.lookup_cons, beq_self_eq_true]
      · right; rw [List.lookup_cons, beq_self_eq_true]
    · have e' : (x == n) = false := beq_eq_false_iff_ne.mpr e
      rw [e'] at h
      dsimp only
      split
      · rw [List.lookup_cons, e']; exact relabel_free h
      · rw [List.lookup_cons, e']; exact relabel_free h
structure CompFacts (X : Cx) (scope : Scope) (N' : List Str) (ix : List (Option Nat)) : Prop where
  nocell : ∀ y ∈ scope.names, y.2 ≠ .cell
  names : ∀ y ∈ scope.names, y.2 = .local → scope.names.lookup y.1 = some .local
  free : ∀ x, (x, NameKind.free) ∈ scope.names → X.env.kindOf x = some .cell ∨ X.env.kindOf x = some .free
  len : ix.length = N'.length
  link : ∀ {i j : Nat} {x : Str}, ix[i]? = some (some j) → N'[i]? = some x → X.N[j]? = some x ∧ scope.names.lookup x = some .free
theorem compFacts {X : Cx} {scope : Scope} {N' : List Str} {ix : List (Option Nat)} (h : compOk X.env.scope X.N scope N' ix = true) : CompFacts X scope N' ix := by
  simp only [compOk, Bool.and_eq_true, List.all_eq_true] at h
  obtain ⟨⟨⟨h1, h2⟩, h3⟩, h4⟩ := h
  refine ⟨fun y hy => by simpa using h1 y hy, fun y hy e => ?_, fun x hx => ?_, linkOk_len h4, fun e e' => linkOk_get h4 e e'⟩
  · have q := h2 y hy
    rw [e] at q
    simpa using q
  · have q := h3 _ hx
    have q' : X.env.scope.names.lookup x = some .cell ∨ X.env.scope.names.lookup x = some .free := by simpa using q
    exact q'
section
variable {X : Cx} {pins : List (Addr × Obj)} {σ : St} {H H' : Hp} {s s' : Shared} {scope : Scope} {N' : List Str} {ix : List (Option Nat)} {fp : List Addr}
theorem FpOk.stk {b : Addr} (I : Inv X pins σ H s) (f : FpOk X pins H b) : b ∉ frs X.stack := fun z => by
  rcases List.mem_cons.mp (I.stkSub b z) with q | q
  · exact f.2.1 q
  · exact f.2.2.1 q
theorem clTo_cell (I : Inv X pins σ H s) (F : CompFacts X scope N' ix) {x : Str} {c : Addr} (h : (clTo X.env.cells scope.names []).lookup x = some c) : X.env.cells.lookup x = some c ∧ (x, NameKind.free) ∈ scope.names := by
  rcases clTo_of _ _ h with q | ⟨q1, q2⟩
  · cases q
  · obtain ⟨c', e⟩ := I.ok.has x (F.free x q1)
    rw [e] at q2
    exact ⟨by rw [e, q2]; rfl, q1⟩
theorem ok_comp (I : Inv X pins σ H s) (F : CompFacts X scope N' ix) (hk : scope.kind = .function) (hf : ∀ b ∈ fp, FpOk X pins H b) (ho : ∀ b ∈ fp, ∃ o, s.heap.get? b = some o) : (cxComp X pins scope N' fp s H).Ok where
  mod := I.ok.mod
  kind := hk
  glob := I.ok.glob
  blt := I.ok.blt
  above := Nat.le_refl _
  inj := fun x y c e1 e2 => I.ok.inj x y c (clTo_cell I F e1).1 (clTo_cell I F e2).1
  has := fun x hx => by
    have q : (x, NameKind.free) ∈ scope.names := by
      rcases hx with z | z
      · exact relabel_back F.nocell z (.inl rfl)
      · exact relabel_back F.nocell z (.inr rfl)
    exact ⟨_, clTo_free _ _ (.inl q)⟩
  cab := fun x c e => by cases e
  hd := I.ok.hd
  frames := I.ok.frames
  stk := .inl rfl
  exf := fun b hb => by
    obtain ⟨o, e⟩ := ho b hb
    exact ⟨Nat.ne_of_lt (Heap.lt_size e), fun x c q => (hf b hb).2.2.2.2.1 x c (clTo_cell I F q).1⟩
  bs := fun b o e => I.bs b o e
  bsz := Nat.le_trans I.ok.bsz I.sz
  noex := fun b o e hb => by
    rcases (hf b hb).2.2.2.1 with z | z
    · exact I.ok.noex b o e z
    · exact absurd (Nat.lt_of_lt_of_le (Heap.lt_size (I.ok.bs b o e).1) z) (Nat.lt_irrefl _)
  exfs := fun b hb => FpOk.stk I (hf b hb)
  funs := I.stack
  frf := I.stkFree
theorem inv_comp {h' : Heap} {m : Str → Option Value} {ob : Obj} {t : Nat} (I : Inv X pins σ H s) (F : CompFacts X scope N' ix) (hk : scope.kind = .function) (hf : ∀ b ∈ fp, FpOk X pins H b) (ho : ∀ b ∈ fp, ∃ o, s.heap.get? b = some o)
    (hn : h'.Ns s.heap.objs.size m) (hs : Heap.SameBut s.heap.objs.size (s.heap.push ob) h') :
    Inv (cxComp X pins scope N' fp s H) [] (pick ix σ) H { s with heap := h', toks := t } := by
  have k : ∀ b u, s.heap.get? b = some u → h'.get? b = some u := fun b u e =>
    (hs.2 b (Nat.ne_of_lt (Heap.lt_size e))).trans (Heap.get?_push_of_some _ e)
  refine ⟨ok_comp I F hk hf ho, rfl, I.bare, Un.kept k, ⟨m, hn, fun i x v e1 e2 e3 => ?_⟩, fun x c e => ?_, I.fresh, fun x c e => ?_, fun p hp => ?_, I.hok.kept k, ?_⟩
  · obtain ⟨j, ej, ev⟩ := pick_get e2
    obtain ⟨l1, l2⟩ := F.link ej e1
    have fr : (x, NameKind.free) ∈ scope.names := mem_of_lookup l2
    obtain ⟨m0, hn0, hl⟩ := I.loc
    have vis : Vis X.env.scope x := .inr (F.free x fr)
    obtain ⟨u, r, l⟩ := hl j x v l1 ev vis
    refine ⟨u, r, .inr ⟨relabel_free l2, ?_⟩⟩
    rcases l with ⟨l, _⟩ | ⟨_, c, e, z⟩
    · rcases F.free x fr with q | q
      · rw [q] at l; cases l
      · rw [q] at l; cases l
    · refine ⟨c, ?_, z.keeps k⟩
      show (clTo X.env.cells scope.names []).lookup x = some c
      rw [clTo_free _ _ (.inl fr), e]; rfl
  · obtain ⟨v, z⟩ := I.cell x c (clTo_cell I F e).1
    exact ⟨v, z.keeps k⟩
  · exact I.freeC x c (clTo_cell I F e).1
  · have hp' : p ∈ X.pn ++ pins := by
      have z : p ∈ (X.pn ++ pins) ++ [] := hp
      rwa [List.append_nil] at z
    obtain ⟨e, n, ne, nf, d⟩ := I.pin p hp'
    refine ⟨k _ _ e, n, Nat.ne_of_lt (Heap.lt_size e), fun z => ?_, d⟩
    rcases List.mem_cons.mp (I.stkSub p.1 z) with q | q
    · exact ne q
    · exact nf q
  · show (pick ix σ).length = N'.length
    unfold pick; rw [List.length_map]; exact F.len
theorem HOk.sameBut {P : Program} {w : World} {h h' : Heap} {a : Addr} (ok : HOk P w H h) (hn : H a = none) (hs : Heap.SameBut a h h') : HOk P w H h' := fun b ob e => by
  refine (ok b ob e).stay (fun c w' hc q => (hs.2 c ?_).trans q) (fun _ q => q) fun _ _ q => q
  rintro rfl
  rcases hc with rfl | hc
  · rw [hn] at e; cases e
  · rw [hn] at hc; cases hc
theorem leave_comp {σ' : St} {ps : List (Addr × Obj)} {h' : Heap} (I : Inv X pins σ H s) (hf : ∀ b ∈ fp, FpOk X pins H b) (I' : Inv (cxComp X pins scope N' fp s H) ps σ' H' s') (hs : Heap.SameBut s.heap.objs.size s'.heap h') :
    Inv X pins σ H' { s' with heap := h' } := by
  have bk : ∀ {b o o'}, s.heap.get? b = some o → s'.heap.get? b = some o' → h'.get? b = some o' := fun {b o o'} e e' => (hs.2 b (Nat.ne_of_lt (Heap.lt_size e))).trans e'
  refine I.call' (s' := { s' with heap := h' }) (ch := fp) I'.os ⟨fun b o e n hb hx => ?_, fun b o e n hb hx => ?_, I'.base.free, fun b o e hx => ?_, I'.base.tups, I'.base.frzs, I'.base.tbls⟩ (I'.hok.sameBut I'.free hs) I'.bare fun b hb => ⟨(hf b hb).2.2.2.1, (hf b hb).2.1, (hf b hb).2.2.2.2.1, (hf b hb).2.2.2.2.2⟩
  · exact bk e (I'.base.keep b o e n hb hx)
  · obtain ⟨sl, q⟩ := I'.base.slot b o e n hb hx
    exact ⟨sl, bk e q⟩
  · obtain ⟨o', q⟩ := I'.base.there b o e hx
    exact ⟨o', bk e q⟩
end
/-- the tests of a comprehension -/
def PTs (X : Cx) (ifs : List Expr) (t : TT) : Prop :=
  ∀ (pins : List (Addr × Obj)) (s : Shared) (σ : St) (H : Hp) (Q : Bool → Hp → Prop), Inv X pins σ H s → t σ H Q →
    wpAny (model X.prog X.w) X.A (forIn ifs true fun c r => if r = true then do let ok ← isTrue c X.env (eval c X.env); pure (ForInStep.yield ok) else pure (ForInStep.yield r)) (TP X pins σ Q) X.xe s
def tTrue : TT := fun _ H Q => Q true H
theorem pts_nil {X : Cx} : PTs X [] tTrue := fun _ _ _ H _ I h => wpAny_tests_nil ⟨H, I, h⟩
theorem pts_one {X : Cx} {c : Expr} {t : TT} (h : PT X c t) : PTs X [c] t := fun pins s σ H Q I q => wpAny_tests_one (h pins s σ H Q I q)
/-- one turn and the end, by an invariant W: the turn, a measure, the items so far, the block's names, the heap -/
def CompRuns (J : It) (p : Addr) (g : TG) (tc : TT) (te : TE) (Q : VK) (σ0 : St) (H0 : Hp) : Prop :=
  ∃ W : Nat → Nat → List V → St → Hp → Prop, (∃ m, W 0 m [] σ0 H0) ∧ ∀ i m acc σ' H', W i m acc σ' H' → H' p = some (.lst acc) ∧
    ((J.stop i H' ∧ Q (.ref p) H') ∨ (J.go i H' ∧ acc.length < sizeLine ∧ ∃ N : List V → St → Hp → Prop, (∀ a' σ3 H3, N a' σ3 H3 → ∃ m', m' < m ∧ W (i + 1) m' a' σ3 H3) ∧
      ∀ x H2, J.yld i H' x H2 → g x σ' H2 fun σ3 H3 => tc σ3 H3 fun b H4 =>
        if b = true then te σ3 H4 fun v H5 => H5 p = some (.lst acc) ∧ N (acc ++ [v]) σ3 (upd H5 p (.lst (acc ++ [v]))) else N acc σ3 H4))
def tComp (ix : List (Option Nat)) (wi : TI) (g : TG) (tc : TT) (te : TE) : TE := fun σ H Q => wi σ H fun J H1 => ∀ p, H1 p = none → CompRuns J p g tc te Q (pick ix σ) (upd H1 p (.lst []))
section
variable {X : Cx} {elt tg iter : Expr} {ifs : List Expr} {scope : Scope} {pos : Pos} {N' : List Str} {ix : List (Option Nat)} {wi : TI} {g : TG} {tc : TT} {te : TE}
theorem comp_run {use : Option (Value → Sem Unit)} {R : Value → Shared → Prop} {pins : List (Addr × Obj)} {s : Shared} {σ : St} {H : Hp} {Q : VK} (hc : X.calm = true) (ok : compOk X.env.scope X.N scope N' ix = true) (hk : scope.kind = .function)
    (hi : PI X tg iter wi)
    (hg : ∀ pins fp s3 H3, PG (cxComp X pins scope N' fp s3 H3) tg g) (ht : ∀ pins fp s3 H3, PTs (cxComp X pins scope N' fp s3 H3) ifs tc) (he : ∀ pins fp s3 H3, PE (cxComp X pins scope N' fp s3 H3) elt te)
    (hs : ∀ x, foldedSetIterable iter X.env x = pure x) (I : Inv X pins σ H s) (h : tComp ix wi g tc te σ H Q)
    (fin : ∀ (p C : Addr) (H' : Hp) (s' : Shared), (∃ m, s'.heap.Ns C m) → FpOk X pins H' C → (∀ h', Heap.SameBut C s'.heap h' → Inv X pins σ H' { s' with heap := h' }) → Q (.ref p) H' → compPost (model X.prog X.w) X.A X.xe use R (.ref p) C (.ok .next) s') :
    wpAny (model X.prog X.w) X.A (comprehension (.ListComp elt [⟨tg, iter, ifs, 0⟩] scope pos) scope X.env (firstIterPos [⟨tg, iter, ifs, 0⟩] pos) (newList []) (firstAsync [⟨tg, iter, ifs, 0⟩]) (firstIter [⟨tg, iter, ifs, 0⟩] X.env) use) R X.xe s := by
  have F := compFacts ok
  refine wpAny_comprehension_free (cl := clTo X.env.cells scope.names []) rfl hs (closureFor_to fun y hy e => ?_) hk F.names ?_
  · obtain ⟨n, k⟩ := y
    have e' : k = .free := e
    subst e'
    exact I.ok.has n (F.free n hy)
  refine thn (hi pins s σ H _ I h) fun v s1 h1 => thn h1 fun itv s2 h2 => ?_
  obtain ⟨it, fp, tn, J, H2, e, I2, T, st2, f2, rd⟩ := h2
  subst e
  refine wpAny_newObj_type ?_
  have hp := I2.fresh
  obtain ⟨W, ⟨m0, w0⟩, turn⟩ := rd _ hp
  have I3 := I2.lnew (ys := []) (its := []) (t' := s2.toks) Paired.nil (Nat.zero_le _)
  have hf3 : ∀ b ∈ fp, FpOk X pins (upd H2 s2.heap.objs.size (.lst [])) b := fun b hb => by
    obtain ⟨o, e, _⟩ := T.obj _ _ st2 b hb
    exact ⟨by rw [upd_ne (Nat.ne_of_lt (Heap.lt_size e))]; exact (f2 b hb).1, (f2 b hb).2⟩
  have ho3 : ∀ b ∈ fp, ∃ o, (s2.heap.push { cls := .type "list", data := .seq ([] : List Value).toArray }).get? b = some o := fun b hb => by
    obtain ⟨o, e, _⟩ := T.obj _ _ st2 b hb
    exact ⟨o, Heap.get?_push_of_some _ e⟩
  have hpC : s2.heap.objs.size ≠ (s2.heap.push { cls := .type "list", data := .seq ([] : List Value).toArray }).objs.size := by
    rw [Heap.size_push]; exact Nat.ne_of_lt (Nat.lt_succ_self _)
  refine wpAny_newFunctionEnv F.nocell (by intro y hy; simp at hy) (fun h4 hn4 hs4 => ?_) hk
  have I4 := inv_comp (t := s2.toks + ([] : List (Str × Value)).length) I3 F hk hf3 ho3 hn4 hs4
  have k4 : ∀ b o, s2.heap.get? b = some o → h4.get? b = some o := fun b o e =>
    (hs4.2 b (Nat.ne_of_lt (Nat.lt_of_lt_of_le (Heap.lt_size e) (by rw [Heap.size_push]; exact Nat.le_succ _)))).trans (Heap.get?_push_of_some _ (Heap.get?_push_of_some _ e))
  have st4 : tn 0 h4 := T.keep _ _ _ st2 fun b _ o e => k4 b o e
  have fx : ∀ {H' : Hp} {ps : List (Addr × Obj)}, (∀ b ∈ fp, H' b = none) → (∀ b ∈ fp, ∀ p ∈ ps, p.1 ≠ b) → ∀ b ∈ fp, FpOk (cxComp X pins scope N' fp { s2 with heap := s2.heap.push { cls := .type "list", data := .seq ([] : List Value).toArray }, toks := s2.toks } (upd H2 s2.heap.objs.size (.lst []))) ps H' b := fun {H' ps} hn hps b hb => by
    obtain ⟨o, e⟩ := ho3 b hb
    refine ⟨hn b hb, Nat.ne_of_lt (Heap.lt_size e), FpOk.stk I3 (hf3 b hb), .inl hb, fun x c q => (hf3 b hb).2.2.2.2.1 x c (clTo_cell I3 F q).1, fun p hp => ?_⟩
    rcases List.mem_append.mp hp with z | z
    · exact (hf3 b hb).2.2.2.2.2 p z
    · exact hps b hb p z
  have loop : codeAny (model X.prog X.w) X.A (.compLoop (.ListComp elt [⟨tg, iter, ifs, 0⟩] scope pos) 0 (.ref it) (.ref s2.heap.objs.size) (compEnvC scope (clTo X.env.cells scope.names []) (s2.heap.push { cls := .type "list", data := .seq ([] : List Value).toArray }).objs.size X.env))
      (compPost (model X.prog X.w) X.A X.xe use R (.ref s2.heap.objs.size) (s2.heap.push { cls := .type "list", data := .seq ([] : List Value).toArray }).objs.size) { s2 with heap := h4, toks := s2.toks + ([] : List (Str × Value)).length } := by
    refine compLoop_any rfl (fun n s' => ∃ i acc σ' H', Inv (cxComp X pins scope N' fp { s2 with heap := s2.heap.push { cls := .type "list", data := .seq ([] : List Value).toArray }, toks := s2.toks } (upd H2 s2.heap.objs.size (.lst []))) [] σ' H' s' ∧ tn i s'.heap ∧ (∀ b ∈ fp, H' b = none) ∧ W i n acc σ' H')
      ?_ m0 ⟨0, [], _, _, I4, st4, fun b hb => (hf3 b hb).1, w0⟩
    rintro n s5 ⟨i, acc, σ5, H5, I5, st5, fr5, w5⟩
    obtain ⟨hacc, alt⟩ := turn i n acc σ5 H5 w5
    rcases alt with ⟨stop, q⟩ | ⟨go, hz, N, hN, step⟩
    · refine wpAny_mono (T.done (cxComp X pins scope N' fp { s2 with heap := s2.heap.push { cls := .type "list", data := .seq ([] : List Value).toArray }, toks := s2.toks } (upd H2 s2.heap.objs.size (.lst []))) rfl rfl rfl hc i [] s5 σ5 H5 (fun _ _ => False) I5 (fx (ps := []) fr5 (fun _ _ _ z => nomatch z)) st5 stop) (fun r s6 ⟨hr, I6⟩ => ?_) fun _ _ f => f.elim
      subst hr
      refine fin _ _ H5 s6 ?_ (I3.fpOk (Nat.le_refl _) I6.free) (fun h' hs' => leave_comp I3 hf3 I6 hs') q
      obtain ⟨m, hm, _⟩ := I6.loc
      exact ⟨m, hm⟩
    · refine wpAny_mono (T.item (cxComp X pins scope N' fp { s2 with heap := s2.heap.push { cls := .type "list", data := .seq ([] : List Value).toArray }, toks := s2.toks } (upd H2 s2.heap.objs.size (.lst []))) rfl rfl rfl hc i [] s5 σ5 H5 (fun _ _ => False) I5 (fx (ps := []) fr5 (fun _ _ _ z => nomatch z)) st5 go) (fun r s6 ⟨u, hr, h6⟩ => ?_) fun _ _ f => f.elim
      subst hr
      refine wpAny_mono h6 (fun _ s7 ⟨x, H7, I7, r7, y7, st7, fr7⟩ => ?_) fun _ _ f => f.elim
      have I7' := I7.pinned (fx (ps := []) fr7 (fun _ _ _ z => nomatch z)) (T.obj _ _ st7)
      refine wpAny_mono (hg _ _ _ _ _ s7 σ5 H7 x u _ I7' r7 (step x H7 y7)) (fun _ s8 ⟨σ8, H8, I8, q8⟩ => ?_) fun _ _ f => f.elim
      refine wpAny_mono (ht _ _ _ _ _ s8 σ8 H8 _ I8 q8) (fun b s9 ⟨H9, I9, q9⟩ => ?_) fun _ _ f => f.elim
      have keep : ∀ {σ' : St} {H' : Hp} {s' : Shared}, Inv (cxComp X pins scope N' fp { s2 with heap := s2.heap.push { cls := .type "list", data := .seq ([] : List Value).toArray }, toks := s2.toks } (upd H2 s2.heap.objs.size (.lst []))) ([] ++ pinsAt fp s7.heap) σ' H' s' →
          tn (i + 1) s'.heap ∧ ∀ b ∈ fp, H' b = none := fun {σ' H' s'} I' => by
        refine ⟨T.keep _ _ _ st7 fun b hb o e => (I'.pin (b, o) (List.mem_append_right _ (List.mem_append_right _ (mem_pinsAt hb e)))).1, fun b hb => ?_⟩
        obtain ⟨o, e, d⟩ := T.obj _ _ st7 b hb
        exact (I'.pin (b, o) (List.mem_append_right _ (List.mem_append_right _ (mem_pinsAt hb e)))).2.1
      cases b with
      | false =>
        rw [if_neg Bool.false_ne_true] at q9 ⊢
        obtain ⟨m', hm, w9⟩ := hN _ _ _ q9
        exact ⟨m', hm, i + 1, acc, σ8, H9, I9.unpinned, (keep I9).1, (keep I9).2, w9⟩
      | true =>
        rw [if_pos rfl] at q9 ⊢
        refine wpAny_mono (he _ _ _ _ _ s9 σ8 H9 _ I9 q9) (fun y s10 ⟨v10, H10, I10, r10, hl10, w10⟩ => ?_) fun _ _ f => f.elim
        refine wpAny_mono (mt_append (X := (cxComp X pins scope N' fp { s2 with heap := s2.heap.push { cls := .type "list", data := .seq ([] : List Value).toArray }, toks := s2.toks } (upd H2 s2.heap.objs.size (.lst [])))) _ s10 σ8 H10 (.ref s2.heap.objs.size) [v10] (.ref s2.heap.objs.size) [y] (fun _ H' => N (acc ++ [v10]) σ8 H') I10 rfl (.cons r10 .nil) ⟨_, acc, v10, rfl, rfl, hl10, hz, w10⟩) (fun _ s11 ⟨_, H11, I11, _, n11⟩ => ?_) fun _ _ f => f.elim
        obtain ⟨m', hm, w11⟩ := hN _ _ _ n11
        exact ⟨m', hm, i + 1, acc ++ [v10], σ8, H11, I11.unpinned, (keep I11).1, (keep I11).2, w11⟩
  exact codeAny_compStart_list loop (T.self X.A 0 _ _ _ st4 loop)
/-- [elt for tg in iter if ..] -/
theorem pe_comp (N' : List Str) (ix : List (Option Nat)) (hc : X.calm = true) (ok : compOk X.env.scope X.N scope N' ix = true) (hk : scope.kind = .function) (hi : PI X tg iter wi)
    (hg : ∀ pins fp s3 H3, PG (cxComp X pins scope N' fp s3 H3) tg g) (ht : ∀ pins fp s3 H3, PTs (cxComp X pins scope N' fp s3 H3) ifs tc) (he : ∀ pins fp s3 H3, PE (cxComp X pins scope N' fp s3 H3) elt te)
    (hs : ∀ x, foldedSetIterable iter X.env x = pure x := by intro _; rfl) : PE X (.ListComp elt [⟨tg, iter, ifs, 0⟩] scope pos) (tComp ix wi g tc te) := by
  intro pins s σ H Q I h
  rw [eval_ListComp]
  refine comp_run hc ok hk hi hg ht he hs I h fun p C H' s' hm fC inv q => ?_
  obtain ⟨m, hm⟩ := hm
  exact ⟨m, hm, fun h' hs' => ⟨.ref p, H', inv h' hs', rfl, q⟩⟩
/-- name = [..], where the store is made ahead of the block's end -/
theorem ps_setC {i : Nat} {x : Str} {pos' spos : Pos} (N' : List Str) (ix : List (Option Nat)) (hc : X.calm = true) (ok : compOk X.env.scope X.N scope N' ix = true) (hk : scope.kind = .function) (hN : X.N.Nodup) (hx1 : X.N[i]? = some x) (hx : X.env.scope.names.lookup x = some .local)
    (hi : PI X tg iter wi)
    (hg : ∀ pins fp s3 H3, PG (cxComp X pins scope N' fp s3 H3) tg g) (ht : ∀ pins fp s3 H3, PTs (cxComp X pins scope N' fp s3 H3) ifs tc) (he : ∀ pins fp s3 H3, PE (cxComp X pins scope N' fp s3 H3) elt te)
    (hw : swapsWith (.ListComp elt [⟨tg, iter, ifs, 0⟩] scope pos) (some (.Name x pos')) spos.line X.env = pure true := by rfl)
    (hs : ∀ x, foldedSetIterable iter X.env x = pure x := by intro _; rfl) : PS X (.Assign [.Name x pos'] (.ListComp elt [⟨tg, iter, ifs, 0⟩] scope pos) spos) (tAsg (tComp ix wi g tc te) (gName i)) := by
  intro pins s σ H D I h
  rw [exec_Assign_Name_used _ _ _ _ hw]
  refine wpAny_bind (wpAny_standAt (wpAny_bind ?_))
  show wpAny _ X.A (do let _ ← comprehension (.ListComp elt [⟨tg, iter, ifs, 0⟩] scope pos) scope X.env (firstIterPos [⟨tg, iter, ifs, 0⟩] pos) (newList []) (firstAsync [⟨tg, iter, ifs, 0⟩]) (firstIter [⟨tg, iter, ifs, 0⟩] X.env) (some (assign (.Name x pos') X.env))) _ _ s
  refine wpAny_bind (thn (comp_run (R := fun _ s' => ∃ σ' H', Inv X pins σ' H' s' ∧ D.nx σ' H') hc ok hk hi hg ht he hs I h fun p C H' s' hm fC inv q => ?_) fun _ s' ⟨σ', H', I', q⟩ => wpAny_pure (wpAny_pure ⟨σ', H', I', q⟩))
  have inv0 : Inv X pins σ H' s' := by
    have := inv s'.heap ⟨rfl, fun _ _ => rfl⟩
    exact this
  obtain ⟨m, hm⟩ := hm
  refine wpAny_assign_Name ?_
  refine store_ok2 (v := .ref p) inv0 hN hx1 (.inl hx) rfl (fun s'' I'' ⟨a, sb, ha⟩ => ?_) (.inr hx)
  have ne : C ≠ a := by
    rcases ha with z | z
    · rw [z]; exact fC.2.1
    · exact fun q => fC.2.2.2.2.1 x a z q.symm
  refine ⟨m, hm.sameBut sb ne, fun h' hs' => ⟨_, H', ?_, q⟩⟩
  exact I''.turned (t' := s''.toks) (it := C) (fun b o hb e => (hs'.2 b hb).trans e) fC.1 fC.2.1 fC.2.2.2.1 fC.2.2.2.2.1 fC.2.2.2.2.2
end
end L2

set_option Elab.async false
set_option linter.all false
set_option maxRecDepth 100000
namespace L2
open PySem PySem.Spec PyProof.Rows
/-! ### data -/
inductive Dt where
  | non | bl (b : Bool) | int (i : Int) | str (x : Str) | tup (ds : List Dt) | lst (ds : List Dt)
mutual
def Is (H : Hp) : V → Dt → Prop
  | v, .non => v = .non
  | v, .bl b => v = .bl b
  | v, .int i => v = .int i
  | v, .str x => v = .str x
  | v, .tup ds => ∃ a xs, v = .ref a ∧ H a = some (.tup xs) ∧ IsL H xs ds
  | v, .lst ds => ∃ a xs, v = .ref a ∧ H a = some (.lst xs) ∧ IsL H xs ds
def IsL (H : Hp) : List V → List Dt → Prop
  | [], [] => True
  | x :: xs, d :: ds => Is H x d ∧ IsL H xs ds
  | _, _ => False
end
mutual
def dep : Dt → Nat
  | .tup ds => depL ds + 1
  | .lst ds => depL ds + 1
  | _ => 0
def depL : List Dt → Nat
  | [] => 0
  | d :: ds => max (dep d) (depL ds)
end
mutual
def wid : Dt → Nat
  | .tup ds => max ds.length (widL ds)
  | .lst ds => max ds.length (widL ds)
  | _ => 0
def widL : List Dt → Nat
  | [] => 0
  | d :: ds => max (wid d) (widL ds)
end
theorem wid_get {ds : List Dt} {i : Nat} {d : Dt} (h : ds[i]? = some d) : wid d ≤ widL ds := by
  induction ds generalizing i with
  | nil => simp at h
  | cons e ds ih =>
    simp only [widL]
    cases i with
    | zero => simp at h; subst h; omega
    | succ i => have := ih (by simpa using h); omega
mutual
theorem Is.same {H H' : Hp} (h : ∀ b o, H b = some o → H' b = some o) : ∀ {d : Dt} {v : V}, Is H v d → Is H' v d
  | .non, _, k => by simp only [Is] at k ⊢; exact k
  | .bl _, _, k => by simp only [Is] at k ⊢; exact k
  | .int _, _, k => by simp only [Is] at k ⊢; exact k
  | .str _, _, k => by simp only [Is] at k ⊢; exact k
  | .tup ds, _, k => by
    simp only [Is] at k ⊢
    obtain ⟨a, xs, e, h1, h2⟩ := k
    exact ⟨a, xs, e, h _ _ h1, IsL.same h h2⟩
  | .lst ds, _, k => by
    simp only [Is] at k ⊢
    obtain ⟨a, xs, e, h1, h2⟩ := k
    exact ⟨a, xs, e, h _ _ h1, IsL.same h h2⟩
theorem IsL.same {H H' : Hp} (h : ∀ b o, H b = some o → H' b = some o) : ∀ {ds : List Dt} {xs : List V}, IsL H xs ds → IsL H' xs ds
  | [], [], _ => by simp only [IsL]
  | d :: ds, x :: xs, k => by
    simp only [IsL] at k ⊢
    exact ⟨Is.same h k.1, IsL.same h k.2⟩
  | [], _ :: _, k => by simp only [IsL] at k
  | _ :: _, [], k => by simp only [IsL] at k
end
theorem IsL.length {H : Hp} : ∀ {ds : List Dt} {xs : List V}, IsL H xs ds → xs.length = ds.length
  | [], [], _ => rfl
  | d :: ds, x :: xs, k => by
    simp only [IsL] at k
    simp only [List.length_cons, IsL.length k.2]
  | [], _ :: _, k => by simp only [IsL] at k
  | _ :: _, [], k => by simp only [IsL] at k
theorem IsL.get {H : Hp} : ∀ {ds : List Dt} {xs : List V} {i : Nat}, IsL H xs ds → i < ds.length → ∃ x d, xs[i]? = some x ∧ ds[i]? = some d ∧ Is H x d
  | [], _, _, _, h => by simp at h
  | d :: ds, x :: xs, 0, k, _ => by
    simp only [IsL] at k
    exact ⟨x, d, rfl, rfl, k.1⟩
  | d :: ds, x :: xs, i + 1, k, h => by
    simp only [IsL] at k
    obtain ⟨y, e, h1, h2, h3⟩ := IsL.get (i := i) k.2 (by simpa using h)
    exact ⟨y, e, by simpa using h1, by simpa using h2, h3⟩
  | _ :: _, [], _, k, _ => by simp only [IsL] at k
theorem dep_get {ds : List Dt} {i : Nat} {d : Dt} (h : ds[i]? = some d) : dep d ≤ depL ds := by
  induction ds generalizing i with
  | nil => simp at h
  | cons e ds ih =>
    simp only [depL]
    cases i with
    | zero => simp at h; subst h; omega
    | succ i => have := ih (by simpa using h); omega
theorem IsL.ints (H : Hp) : ∀ ns : List Int, IsL H (ns.map V.int) (ns.map Dt.int)
  | [] => by simp only [List.map_nil, IsL]
  | n :: ns => by simp only [List.map_cons, IsL, Is, true_and]; exact IsL.ints H ns
/-! as the library's data -/
mutual
def toP : Dt → PyData
  | .non => .none
  | .bl b => .bool b
  | .int i => .int i
  | .str x => .str x
  | .tup ds => .tuple (toPs ds)
  | .lst ds => .list (toPs ds)
def toPs : List Dt → List PyData
  | [] => []
  | d :: ds => toP d :: toPs ds
end
mutual
theorem Is.reads {P : Program} {w : World} {H : Hp} {h : Heap} (ok : HOk P w H h) : ∀ {d : Dt} {v : V} {u : Value}, Is H v d → RelV v u → ∃ as, Reads h u (toP d) as
  | .non, _, _, k, r => by simp only [Is] at k; subst k; cases r; exact ⟨_, Reads.none⟩
  | .bl b, _, _, k, r => by simp only [Is] at k; subst k; cases r; exact ⟨_, Reads.bool b⟩
  | .int i, _, _, k, r => by simp only [Is] at k; subst k; obtain ⟨t, rfl⟩ := r; exact ⟨_, Reads.int i t⟩
  | .str x, _, _, k, r => by simp only [Is] at k; subst k; obtain ⟨t, rfl⟩ := r; exact ⟨_, Reads.str x t⟩
  | .tup ds, _, _, k, r => by
    simp only [Is] at k
    obtain ⟨a, xs, rfl, h1, h2⟩ := k
    cases r
    obtain ⟨_, its, rv, o, ho, hc, n, hd⟩ := (show ObjOk P w H h a (.tup xs) from ok a _ h1)
    obtain ⟨as, q⟩ := IsL.reads ok h2 rv
    exact ⟨_, Reads.tuple ho hc hd (by simpa using q)⟩
  | .lst ds, _, _, k, r => by
    simp only [Is] at k
    obtain ⟨a, xs, rfl, h1, h2⟩ := k
    cases r
    obtain ⟨_, its, n, rv, e⟩ := (show ObjOk P w H h a (.lst xs) from ok a _ h1)
    obtain ⟨as, q⟩ := IsL.reads ok h2 rv
    exact ⟨_, Reads.list e rfl rfl (by simpa using q)⟩
theorem IsL.reads {P : Program} {w : World} {H : Hp} {h : Heap} (ok : HOk P w H h) : ∀ {ds : List Dt} {xs : List V} {us : List Value}, IsL H xs ds → Vals xs us → ∃ as, ReadsAll h us (toPs ds) as
  | [], [], _, _, .nil => ⟨_, ReadsAll.nil⟩
  | d :: ds, x :: xs, _, k, .cons r t => by
    simp only [IsL] at k
    obtain ⟨as, q⟩ := Is.reads ok k.1 r
    obtain ⟨bs, q2⟩ := IsL.reads ok k.2 t
    exact ⟨_, ReadsAll.cons q q2⟩
  | [], _ :: _, _, k, _ => by simp only [IsL] at k
  | _ :: _, [], _, k, _ => by simp only [IsL] at k
end
def okD (d : Dt) : Prop := SeqAt.shaped (toP d) = true
def eqD (d e : Dt) : Bool := PyData.eqv (toP d) (toP e)
theorem eqD_self {d : Dt} (h : okD d) : eqD d d = true := SeqAt.eqv_refl _ (SeqAt.canLay_of_shaped h)
end L2

set_option Elab.async false
set_option linter.all false
set_option maxRecDepth 100000
namespace L2
open PySem PySem.Spec PyProof.Rows

/-! ### weaker readings -/
section
variable {X : Cx}
theorem OpR.imp {f : Value → Value → Sem Value} {r r' : R2} (h : OpR X f r) (hi : ∀ x y H Q, r' x y H Q → r x y H Q) : OpR X f r' := fun pins s σ H x y v u Q I rx ry q => h pins s σ H x y v u Q I rx ry (hi x y H Q q)
theorem CallR.imp {f : Value} {r r' : List V → Hp → VK → Prop} (h : CallR X f r) (hi : ∀ xs H Q, r' xs H Q → r xs H Q) : CallR X f r' := fun pins s σ H xs us Q I rs q => h pins s σ H xs us Q I rs (hi xs H Q q)
end
section
variable {X : Cx} {pins : List (Addr × Obj)} {σ : St} {H : Hp} {s : Shared} {Q : VK}
theorem endS {z : Str} {t : Tok} (I : Inv X pins σ H s) (q : Q (.str z) H) : EP X pins σ Q (.str z t) s := ⟨.str z, H, I, ⟨t, rfl⟩, q⟩
theorem endB {b : Bool} (I : Inv X pins σ H s) (q : Q (.bl b) H) : EP X pins σ Q (.bool b) s := ⟨.bl b, H, I, rfl, q⟩
end
/-! ### what stands at an address, to be read -/
def lstR (H : Hp) (a : Addr) : Option (List V) := match H a with
  | some (.lst xs) => some xs
  | some (.frz _ (.lst xs)) => some xs
  | _ => none
def tupR (H : Hp) (a : Addr) : Option (List V) := match H a with
  | some (.tup xs) => some xs
  | _ => none
def seqR (H : Hp) (a : Addr) : Option (List V) := match lstR H a with
  | some xs => some xs
  | none => tupR H a
theorem lstR_of {H : Hp} {a : Addr} {xs : List V} (h : H a = some (.lst xs)) : lstR H a = some xs := by unfold lstR; rw [h]
theorem tupR_of {H : Hp} {a : Addr} {xs : List V} (h : H a = some (.tup xs)) : tupR H a = some xs := by unfold tupR; rw [h]
theorem seqR_lst {H : Hp} {a : Addr} {xs : List V} (h : H a = some (.lst xs)) : seqR H a = some xs := by unfold seqR; rw [lstR_of h]
theorem seqR_tup {H : Hp} {a : Addr} {xs : List V} (h : H a = some (.tup xs)) : seqR H a = some xs := by
  have e : lstR H a = none := by unfold lstR; rw [h]
  unfold seqR; rw [e]; exact tupR_of h
theorem lstR_sq {K : PySem.W.Frag} {H : Hp} {a : Addr} {xs : List V} (h : lstR H a = some xs) : SqL K H a xs := by
  unfold lstR at h
  split at h
  · rename_i e; cases h; exact .inl (.inl e)
  · rename_i e; cases h; exact .inl (.inr ⟨_, e⟩)
  · cases h
theorem tupR_sq {K : PySem.W.Frag} {H : Hp} {a : Addr} {xs : List V} (h : tupR H a = some xs) : SqT K H a xs := by
  unfold tupR at h
  split at h
  · rename_i e; cases h; exact .inl (.inl e)
  · cases h
theorem seqR_sq {K : PySem.W.Frag} {H : Hp} {a : Addr} {xs : List V} (h : seqR H a = some xs) : SqL K H a xs ∨ SqT K H a xs := by
  unfold seqR at h
  split at h
  · rename_i e; cases h; exact .inl (lstR_sq e)
  · exact .inr (tupR_sq h)
/-- a tuple of these items is told, a new one or one that stood -/
def GetT (H : Hp) (xs : List V) (Q : VK) : Prop := ∀ p H', H' p = some (.tup xs) → (∀ b o, H b = some o → H' b = some o) → Q (.ref p) H'
theorem GetT.new {H : Hp} {xs : List V} {Q : VK} (h : GetT H xs Q) {p : Addr} (hp : H p = none) : Q (.ref p) (upd H p (.tup xs)) :=
  h p _ upd_same fun b o e => by rw [upd_ne (ne_of_none e hp)]; exact e
theorem GetT.old {H : Hp} {xs : List V} {Q : VK} (h : GetT H xs Q) {p : Addr} (hp : H p = some (.tup xs)) : Q (.ref p) H := h p _ hp fun b o e => e
def GetL (H : Hp) (xs : List V) (Q : VK) : Prop := ∀ p, H p = none → Q (.ref p) (upd H p (.lst xs))
/-! ### operators -/
def fAdd : R2 := fun x y H Q => match x, y with
  | .int i, .int j => Q (.int (i + j)) H
  | .str i, .str j => i.length + j.length ≤ sizeLine ∧ Q (.str (i ++ j)) H
  | .ref a, .ref b => match H a, H b with
    | some (.lst xs), some (.lst ys) => xs.length + ys.length ≤ sizeLine ∧ GetL H (xs ++ ys) Q
    | some (.tup xs), some (.tup ys) => xs ≠ [] ∧ xs.length + ys.length ≤ sizeLine ∧ GetT H (xs ++ ys) Q
    | _, _ => False
  | _, _ => False
def fMul : R2 := fun x y H Q => match x, y with
  | .int i, .int j => CMul i j ∧ Q (.int (i * j)) H
  | .str z, .int n => z.length * n.toNat ≤ 1000000 ∧ -(2 ^ 62) < n ∧ n < 2 ^ 62 ∧ Q (.str (Txt.mul z n)) H
  | .ref a, .int k => match H a with
    | some (.lst xs) => -(2 ^ 63) ≤ k ∧ k < 2 ^ 63 ∧ xs.length * k.toNat ≤ sizeLine ∧ GetL H (List.replicate k.toNat xs).flatten Q
    | _ => False
  | _, _ => False
def fI (C : Int → Int → Prop) (g : Int → Int → V) : R2 := fun x y H Q => match x, y with
  | .int i, .int j => C i j ∧ Q (g i j) H
  | _, _ => False
def fI0 (g : Int → Int → V) : R2 := fun x y H Q => match x, y with
  | .int i, .int j => Q (g i j) H
  | _, _ => False
theorem fI0_rI0 {g : Int → Int → V} : ∀ x y H Q, fI0 g x y H Q → rI0 g x y H Q := fun x y H Q h => by
  unfold fI0 at h
  split at h
  · exact ⟨_, _, rfl, rfl, h⟩
  · exact h.elim
theorem fI_rI {C : Int → Int → Prop} {g : Int → Int → V} : ∀ x y H Q, fI C g x y H Q → rI C g x y H Q := fun x y H Q h => by
  unfold fI at h
  split at h
  · exact ⟨_, _, rfl, rfl, h.1, h.2⟩
  · exact h.elim
section
variable {X : Cx}
theorem o_add : OpR X (binaryOp .Add) fAdd := by
  intro pins s σ H x y v u Q I rx ry h
  unfold fAdd at h
  split at h
  · exact op_add pins s σ H _ _ v u Q I rx ry ⟨_, _, rfl, rfl, h⟩
  · exact op_add_str pins s σ H _ _ v u Q I rx ry ⟨_, _, rfl, rfl, h.1, h.2⟩
  · split at h
    · rename_i h1 h2
      exact op_cat pins s σ H _ _ v u Q I rx ry ⟨_, _, _, _, rfl, rfl, h1, h2, h.1, h.2⟩
    · rename_i xs ys h1 h2
      refine op_catT pins s σ H _ _ v u Q I rx ry ⟨_, _, _, _, rfl, rfl, SqT.of h1, SqT.of h2, h.1, h.2.1, fun e => ?_, fun _ p hp => h.2.2.new hp⟩
      subst e
      have := h.2.2
      rw [List.append_nil] at this
      exact this.old h1
    · exact h.elim
  · exact h.elim
theorem o_fdiv : OpR X (binaryOp .FloorDiv) (fI CDiv fun i j => .int (i / j)) := op_fdiv.imp fI_rI
theorem o_mod : OpR X (binaryOp .Mod) (fI (fun _ j => 0 < j) fun i j => .int (i % j)) := op_mod.imp fI_rI
theorem o_pow : OpR X (binaryOp .Pow) (fI CPow fun i j => .int (i ^ j.toNat)) := op_pow.imp fI_rI
theorem mulOk_of {z : Str} {n : Int} (h : z.length * n.toNat ≤ 1000000) (h1 : -(2 ^ 62) < n) (h2 : n < 2 ^ 62) : MulOk z n := by
  have e1 : ((2 : Int) ^ 62) = 4611686018427387904 := by decide
  have e2 : ((2 : Int) ^ 63) = 9223372036854775808 := by decide
  rw [e1] at h1 h2
  refine ⟨?_, fun hn _ => ?_, fun hn _ => ?_⟩
  · rw [e2]; simp only [Bool.or_eq_false_iff, decide_eq_false_iff_not]; omega
  · have hp : 0 < n := by omega
    have hz : (z.length : Int) ≤ 1000000 := by
      have : z.length * 1 ≤ z.length * n.toNat := Nat.mul_le_mul_left _ (by omega)
      omega
    have e3 : ((2 : Int) ^ 63 - 1) = 9223372036854775807 := by decide
    rw [e3]
    intro hgt
    have h3 : (9223372036854775807 : Int) / n < z.length := hgt
    have h4 : (9223372036854775807 : Int) < z.length * n := by
      have := Int.lt_mul_of_ediv_lt hp h3
      exact this
    have h5 : (z.length : Int) * n ≤ 1000000 := by
      have e : ((z.length * n.toNat : Nat) : Int) = (z.length : Int) * n := by
        rw [Int.natCast_mul]; congr 1; omega
      omega
    omega
  · unfold Builtin.Str.tooLong sizeLine
    have e4 : (2 : Nat) ^ 24 = 16777216 := by decide
    exact decide_eq_false (by omega)
theorem o_mul : OpR X (binaryOp .Mult) fMul := by
  intro pins s σ H x y v u Q I rx ry h
  unfold fMul at h
  split at h
  · exact op_mul pins s σ H _ _ v u Q I rx ry ⟨_, _, rfl, rfl, h.1, h.2⟩
  · obtain ⟨h1, h2, h3, q⟩ := h
    obtain ⟨t, rfl⟩ := rx
    obtain ⟨t', rfl⟩ := ry
    exact SB.mul (mulOk_of h1 h2 h3) fun t' k => endS (I.tok _) q
  · split at h
    · rename_i h1
      exact op_rep pins s σ H _ _ v u Q I rx ry ⟨_, _, _, rfl, rfl, h1, h.1, h.2.1, h.2.2.1, h.2.2.2⟩
    · exact h.elim
  · exact h.elim
/-! comparisons -/
theorem o_lt : OpR X (compareOp .Lt) (fI0 fun i j => .bl (decide (i < j))) := op_lt.imp fI0_rI0
theorem o_gt : OpR X (compareOp .Gt) (fI0 fun i j => .bl (decide (j < i))) := op_gt.imp fI0_rI0

/-! equality of plain values; the deep one is a rule of its own -/
def fEq : R2 := fun x y H Q => (scal x y = true ∧ Q (.bl (decide (x = y))) H) ∨ ∃ d e, Is H x d ∧ Is H y e ∧ okD d ∧ okD e ∧ Q (.bl (eqD d e)) H
def fNe : R2 := fun x y H Q => (scal x y = true ∧ Q (.bl (!decide (x = y))) H) ∨ ∃ d e, Is H x d ∧ Is H y e ∧ okD d ∧ okD e ∧ Q (.bl (!eqD d e)) H
/-- is, beside None -/
def fIs : R2 := fun x y H Q => y = .non ∧ Q (.bl (decide (x = .non))) H
theorem o_eq (hu : X.A.units + 64 < cLine) : OpR X (compareOp .Eq) fEq := by
  intro pins s σ H x y v u Q I rx ry h
  rcases h with h | ⟨d, e, h1, h2, h3, h4, q⟩
  · exact op_eq pins s σ H x y v u Q I rx ry h
  · obtain ⟨as, r1⟩ := Is.reads I.hok h1 rx
    obtain ⟨bs, r2⟩ := Is.reads I.hok h2 ry
    exact eq_dataH r1 r2 h3 h4 hu (endB I q)
theorem o_ne (hu : X.A.units + 64 < cLine) : OpR X (compareOp .NotEq) fNe := by
  intro pins s σ H x y v u Q I rx ry h
  rcases h with h | ⟨d, e, h1, h2, h3, h4, q⟩
  · exact op_ne pins s σ H x y v u Q I rx ry h
  · obtain ⟨as, r1⟩ := Is.reads I.hok h1 rx
    obtain ⟨bs, r2⟩ := Is.reads I.hok h2 ry
    exact ne_dataH r1 r2 h3 h4 hu (endB I q)
theorem o_is : OpR X (compareOp .Is) fIs := op_isN
/-- in: one text within another; a plain value among the plain items of a list or tuple -/
def fIn (neg : Bool) : R2 := fun x y H Q => match x, y with
  | .str i, .str j => Q (.bl (xor neg (Txt.contains j i))) H
  | x, .ref p => match seqR H p with
    | some xs => flatV x = true ∧ xs.all flatV = true ∧ Q (.bl (if neg then !inV x xs else inV x xs)) H
    | none => False
  | _, _ => False
theorem o_in : OpR X (compareOp .In) (fIn false) := by
  intro pins s σ H x y v u Q I rx ry h
  unfold fIn at h
  split at h
  · refine op_in_str pins s σ H _ _ v u Q I rx ry ⟨_, _, rfl, rfl, ?_⟩
    simpa [Txt.contains] using h
  · split at h
    · rename_i e
      exact op_in_seq pins s σ H _ _ v u Q I rx ry ⟨_, _, rfl, seqR_sq e, h.1, h.2.1, h.2.2⟩
    · exact h.elim
  · exact h.elim
theorem o_notin : OpR X (compareOp .NotIn) (fIn true) := by
  intro pins s σ H x y v u Q I rx ry h
  unfold fIn at h
  split at h
  · refine op_notin_str pins s σ H _ _ v u Q I rx ry ⟨_, _, rfl, rfl, ?_⟩
    simpa [Txt.contains] using h
  · split at h
    · rename_i e
      exact op_notIn_seq pins s σ H _ _ v u Q I rx ry ⟨_, _, rfl, seqR_sq e, h.1, h.2.1, h.2.2⟩
    · exact h.elim
  · exact h.elim
/-! ### unary minus -/
/-! ### items -/
def fIx (K : PySem.W.Frag) : R2 := fun x y H Q => match x, y with
  | .ref p, .int i => ∃ xs v, (SqL K H p xs ∨ SqT K H p xs) ∧ atI xs i = some v ∧ Q v H
  | .str z, .int i => z.length ≤ sizeLine ∧ (match atI z.cps.toList i with | some c => Q (.str ⟨#[c]⟩) H | none => False)
  | _, _ => False
theorem ix_any {K : PySem.W.Frag} (hK : X.K = K := by rfl) : IxR X (fIx K) := by
  subst hK
  intro value slice pins s σ H x y v u Q I rx ry h hs
  unfold fIx at h
  split at h
  · obtain ⟨xs, w', e, e', h⟩ := h
    rcases e with q | q
    · exact ix_list value slice pins s σ H _ _ v u Q I rx ry ⟨_, _, _, _, rfl, rfl, q, e', h⟩ hs
    · exact ix_tup value slice pins s σ H _ _ v u Q I rx ry ⟨_, _, _, _, rfl, rfl, q, e', h⟩ hs
  · obtain ⟨hz, h⟩ := h
    split at h
    · rename_i c e
      exact ix_str value slice pins s σ H _ _ v u Q I rx ry ⟨_, _, _, rfl, rfl, hz, e, h⟩ hs
    · exact h.elim
  · exact h.elim
/-! ### slices -/
def fSl (K : PySem.W.Frag) : V → Option Int → Option Int → Hp → VK → Prop := fun x lo hi H Q => match x with
  | .str z => z.length ≤ sizeLine ∧ Q (.str (Txt.slice z lo hi)) H
  | .ref a => (∃ xs, SqL K H a xs ∧ GetL H (cutV xs lo hi) Q) ∨
    (∃ xs, SqT K H a xs ∧ ¬ (HT.sIx xs.length 0 lo = 0 ∧ HT.sIx xs.length xs.length hi = xs.length) ∧ GetT H (cutV xs lo hi) Q)
  | _ => False
theorem sl_str : SlR X (fun x lo hi H Q => ∃ z, x = .str z ∧ z.length ≤ sizeLine ∧ Q (.str (Txt.slice z lo hi)) H) := by
  intro pins s σ H x v vl vu lo hi sl Q I rx hs pl pu h
  obtain ⟨z, rfl, hz, q⟩ := h
  obtain ⟨t, rfl⟩ := rx
  refine ⟨"str", _, PySem.F.slot_str_getitem.lookup, typeIs_str _ _ _, ?_⟩
  have fin : ∀ (l u : Option (Int × Tok)), l.map (·.1) = lo → u.map (·.1) = hi → s.heap.IsSlice sl l u none → wpAny (model X.prog X.w) X.A (getItem (.str z t) (.ref sl)) (EP X pins σ Q) X.xe s := fun l u el eu hs' => by
    subst el eu
    refine wpAny_getItem_str_slice hs' rfl ?_
    have q' : ∀ t' k, EP X pins σ Q (.str (Txt.slice z (l.map (·.1)) (u.map (·.1))) t') { s with toks := k } := fun t' k => endS (I.tok _) q
    exact post_val_or_str ⟨Nat.le_trans (Txt.slice_le z _ _) hz, fun t' k => q' t' k⟩
  cases pl with
  | none =>
    cases pu with
    | none => exact fin none none rfl rfl hs
    | int j u => exact fin none (some (j, u)) rfl rfl hs
  | int i t' =>
    cases pu with
    | none => exact fin (some (i, t')) none rfl rfl hs
    | int j u => exact fin (some (i, t')) (some (j, u)) rfl rfl hs
theorem sl_any {K : PySem.W.Frag} (hK : X.K = K := by rfl) : SlR X (fSl K) := by
  subst hK
  intro pins s σ H x v vl vu lo hi sl Q I rx hs pl pu h
  unfold fSl at h
  split at h
  · exact sl_str pins s σ H _ v vl vu lo hi sl Q I rx hs pl pu ⟨_, rfl, h.1, h.2⟩
  · rcases h with ⟨xs, e, h⟩ | ⟨xs, e, h⟩
    · exact sl_list pins s σ H _ v vl vu lo hi sl Q I rx hs pl pu ⟨_, _, rfl, e, h⟩
    · exact sl_tup pins s σ H _ v vl vu lo hi sl Q I rx hs pl pu ⟨_, _, rfl, e, h.1, fun p hp => h.2.new hp⟩
  · exact h.elim
/-! ### len and others -/
def fLen (K : PySem.W.Frag) : List V → Hp → VK → Prop := fun xs H Q => match xs with
  | [.str z] => z.length ≤ sizeLine ∧ Q (.int z.length) H
  | [.ref p] => ∃ ys, (SqL K H p ys ∨ SqT K H p ys) ∧ Q (.int ys.length) H
  | _ => False
theorem c_len {K : PySem.W.Frag} (hK : X.K = K := by rfl) : CallR X (.builtin "len") (fLen K) := by
  subst hK
  intro pins s σ H xs us Q I r h
  unfold fLen at h
  split at h
  · exact call_len_str pins s σ H _ us Q I r ⟨_, rfl, h.1, h.2⟩
  · obtain ⟨ys, e, h⟩ := h
    exact call_len_seq pins s σ H _ us Q I r ⟨_, _, rfl, e, h⟩
  · exact h.elim
def f1I (g : Int → V) : List V → Hp → VK → Prop := fun xs H Q => match xs with
  | [.int i] => Q (g i) H
  | _ => False
theorem c_abs : CallR X (.builtin "abs") (f1I fun i => .int (if i < 0 then -i else i)) := call_abs.imp fun xs H Q h => by
  unfold f1I at h
  split at h
  · exact ⟨_, rfl, h⟩
  · exact h.elim
def fList : List V → Hp → VK → Prop := fun xs H Q => match xs with
  | [.ref p] => (match seqR H p with | some ys => GetL H ys Q | none => False)
  | _ => False
theorem c_list : CallR X (.type "list") fList := call_list_of.imp fun xs H Q h => by
  unfold fList at h
  split at h
  · split at h
    · rename_i e; exact ⟨_, _, rfl, seqR_sq e, h⟩
    · exact h.elim
  · exact h.elim
def fTuple : List V → Hp → VK → Prop := fun xs H Q => match xs with
  | [.ref p] => (match seqR H p with | some ys => GetT H ys Q | none => False)
  | _ => False
theorem tup_back {H : Hp} {p : Addr} {ys : List V} (h : tupR H p = some ys) : H p = some (.tup ys) := by
  unfold tupR at h
  split at h
  · rename_i e; cases h; exact e
  · cases h
theorem c_tuple : CallR X (.type "tuple") fTuple := call_tuple_of.imp fun xs H Q h => by
  unfold fTuple at h
  split at h
  · split at h
    · rename_i ys e
      refine ⟨_, ys, rfl, ?_⟩
      unfold seqR at e
      split at e
      · rename_i e'; cases e
        exact .inl ⟨lstR_sq e', fun l hl => h.new hl⟩
      · exact .inr ⟨tupR_sq e, h.old (tup_back e)⟩
    · exact h.elim
  · exact h.elim
/-! ### truth -/
def fTru (x : V) (H : Hp) (Q : Bool → Hp → Prop) : Prop := match x with
  | .non => Q false H
  | .bl b => Q b H
  | .int i => Q (i != 0) H
  | .str z => z.length ≤ sizeLine ∧ Q ((z.length : Int) != 0) H
  | .ref p => (match seqR H p with | some xs => Q (!xs.isEmpty) H | none => False)
  | _ => False
theorem pt_tru {a : Expr} {ta : TE} (ha : PE X a ta) (he : ∀ whole, isTrue a X.env whole = (do let v ← whole; standAt a.pos; holding [v] (truthy v))) :
    PT X a (fun σ H Q => ta σ H fun x H' => fTru x H' Q) := by
  intro pins s σ H Q I h
  show wpAny _ _ (isTrue a X.env (eval a X.env)) _ _ _
  rw [he]
  refine wpAny_bind (thn (ha pins s σ H _ I h) fun v s1 ⟨x, H1, I1, r1, q1⟩ => wpAny_bind (wpAny_standAt (wpAny_holding ?_)))
  refine tru_ok pins s1 σ H1 x v Q I1 r1 ?_
  have q1 : fTru x H1 Q := q1
  unfold fTru at q1
  split at q1
  · exact ⟨_, rfl, q1⟩
  · exact ⟨_, rfl, q1⟩
  · exact ⟨_, rfl, q1⟩
  · exact ⟨_, ⟨q1.1, rfl⟩, q1.2⟩
  · split at q1
    · rename_i xs e
      refine ⟨_, ?_, q1⟩
      rcases seqR_sq (K := X.K) e with z | z
      · exact .inl ⟨_, z, rfl⟩
      · exact .inr (.inl ⟨_, z, rfl⟩)
    · exact q1.elim
  · exact q1.elim
/-! ### methods of lists -/
/-! ### methods of texts -/
theorem strsAre_of : ∀ {ys : List Str} {us : List Value}, Vals (ys.map V.str) us → StrsAre us ys
  | [], _, .nil => .nil
  | y :: ys, _, .cons r t => by
    obtain ⟨k, rfl⟩ := r
    exact .cons y k (strsAre_of t)
/-- the texts of a list of texts -/
def strs? : List V → Option (List Str)
  | [] => some []
  | .str z :: r => (strs? r).map (z :: ·)
  | _ => none
theorem strs?_map : ∀ ys : List Str, strs? (ys.map V.str) = some ys
  | [] => rfl
  | y :: ys => by simp only [List.map_cons, strs?, strs?_map ys, Option.map_some]
theorem strs?_of : ∀ {xs : List V} {ys : List Str}, strs? xs = some ys → xs = ys.map V.str
  | [], _, h => by cases h; rfl
  | .str z :: r, ys, h => by
    simp only [strs?] at h
    cases e : strs? r with
    | none => rw [e] at h; cases h
    | some q => rw [e] at h; cases h; rw [strs?_of e]; rfl
  | .non :: _, _, h => by cases h
  | .bl _ :: _, _, h => by cases h
  | .int _ :: _, _, h => by cases h
  | .byt _ :: _, _, h => by cases h
  | .flt _ :: _, _, h => by cases h
  | .ref _ :: _, _, h => by cases h
  | .ty _ :: _, _, h => by cases h
def fJoin : V → List V → Hp → VK → Prop := fun x vs H Q => match x, vs with
  | .str z, [.ref p] => (match lstR H p with
    | some xs => (match strs? xs with
      | some ys => (ys.map (·.length)).sum + ys.length * z.length ≤ 16777216 ∧ Q (.str (Txt.join z ys)) H
      | none => False)
    | none => False)
  | _, _ => False
theorem m_join1 : MtR X "str.join" fJoin := fun pins s σ H x xs v us Q I rx rs h => by
  unfold fJoin at h
  split at h
  · rename_i z p
    split at h
    · rename_i ws e
      split at h
      · rename_i ys e2
        obtain ⟨t, rfl⟩ := rx
        obtain ⟨u, rfl, ru⟩ := vals1 rs
        cases ru
        obtain ⟨its, r', pl, hz⟩ := I.list (lstR_sq e)
        rw [strs?_of e2] at r'
        exact join_list pl.isList (strsAre_of (by simpa using r')) h.1 fun t' k => endS (I.tok _) h.2
      · exact h.elim
    · exact h.elim
  · exact h.elim
end
end L2

set_option Elab.async false
set_option linter.all false
set_option maxRecDepth 100000
namespace L2
open PySem PySem.Spec PyProof.Rows

/-! ### isinstance, for values of Python's own kinds -/
def tyN (H : Hp) : V → Option String
  | .non => some "NoneType"
  | .bl _ => some "bool"
  | .int _ => some "int"
  | .str _ => some "str"
  | .ref a => match H a with
    | some (.lst _) => some "list"
    | some (.frz _ (.lst _)) => some "list"
    | some (.tup _) => some "tuple"
    | _ => none
  | _ => none
def subB (t T : String) : Bool := t == T || (t == "bool" && T == "int")
def tys? : List V → Option (List String)
  | [] => some []
  | .ty T :: r => (tys? r).map (T :: ·)
  | _ => none
def knownT (T : String) : Bool := ["bool", "int", "str", "list", "tuple"].contains T
theorem kitOne_of {K : PySem.W.Frag} {t T : String} (ht : t = "NoneType" ∨ t = "bool" ∨ t = "int" ∨ t = "str" ∨ t = "list" ∨ t = "tuple") (hT : T = "bool" ∨ T = "int" ∨ T = "str" ∨ T = "list" ∨ T = "tuple") :
    PySem.W.kitOne K (.type t) (.type T) = some (subB t T) := by
  rcases ht with rfl | rfl | rfl | rfl | rfl | rfl <;> rcases hT with rfl | rfl | rfl | rfl | rfl <;> kernel_rfl
def fIsi : List V → Hp → VK → Prop := fun xs H Q => match xs with
  | [x, .ty T] => (match tyN H x with
    | some t => knownT T = true ∧ Q (.bl (subB t T)) H
    | none => False)
  | [x, .ref p] => (match tyN H x, tupR H p with
    | some t, some ts => (match tys? ts with
      | some Ts => Ts.all knownT = true ∧ Q (.bl (Ts.any (subB t))) H
      | none => False)
    | _, _ => False)
  | _ => False
section
variable {X : Cx}
theorem tyN_kit {K : PySem.W.Frag} {pins : List (Addr × Obj)} {σ : St} {H : Hp} {s : Shared} {x : V} {u : Value} {t : String} (I : Inv X pins σ H s) (rx : RelV x u) (e : tyN H x = some t) :
    (t = "NoneType" ∨ t = "bool" ∨ t = "int" ∨ t = "str" ∨ t = "list" ∨ t = "tuple") ∧ u ≠ .builtin "__main__.__loader__#opaque" ∧ ∃ Hp', PySem.W.KitX K u (.type t) Hp' ∧ Hp' s.heap := by
  cases x with
  | non => cases (show u = Value.none from rx); cases e; exact ⟨by simp, (fun z => nomatch z), _, PySem.W.kitx_none, True.intro⟩
  | bl b => cases (show u = Value.bool b from rx); cases e; exact ⟨by simp, (fun z => nomatch z), _, PySem.W.kitx_bool, True.intro⟩
  | int i => obtain ⟨k, q⟩ := (show ∃ t, u = Value.int i t from rx); cases q; cases e; exact ⟨by simp, (fun z => nomatch z), _, PySem.W.kitx_int, True.intro⟩
  | str z => obtain ⟨k, q⟩ := (show ∃ t, u = Value.str z t from rx); cases q; cases e; exact ⟨by simp, (fun z => nomatch z), _, PySem.W.kitx_str, True.intro⟩
  | ref a =>
    cases (show u = Value.ref a from rx)
    unfold tyN at e
    dsimp only at e
    split at e
    · rename_i xs ea
      cases e
      obtain ⟨_, _, n, _, h1⟩ := (show ObjOk X.prog X.w H s.heap a (.lst xs) from I.hok a _ ea)
      exact ⟨by simp, (fun z => nomatch z), _, PySem.W.kitx_list, ⟨_, h1, rfl⟩⟩
    · rename_i ob xs ea
      cases e
      obtain ⟨_, _, _, n, _, h1⟩ := (show ObjOk X.prog X.w H s.heap a (.frz ob (.lst xs)) from I.hok a _ ea)
      exact ⟨by simp, (fun z => nomatch z), _, PySem.W.kitx_list, ⟨_, h1, rfl⟩⟩
    · rename_i xs ea
      cases e
      obtain ⟨_, _, _, p⟩ := (show ObjOk X.prog X.w H s.heap a (.tup xs) from I.hok a _ ea)
      obtain ⟨o, h1, h2, _⟩ := p
      exact ⟨by simp, (fun z => nomatch z), _, PySem.W.kitx_tuple, ⟨o, h1, h2⟩⟩
    · cases e
  | byt _ => cases e
  | flt _ => cases e
  | ty _ => cases e
theorem knownT_of {T : String} (h : knownT T = true) : T = "bool" ∨ T = "int" ∨ T = "str" ∨ T = "list" ∨ T = "tuple" := by
  simpa [knownT] using h
theorem tys_any {K : PySem.W.Frag} {t : String} (ht : t = "NoneType" ∨ t = "bool" ∨ t = "int" ∨ t = "str" ∨ t = "list" ∨ t = "tuple") : ∀ {ts : List V} {Ts : List String} {its : List Value}, tys? ts = some Ts → Vals ts its → Ts.all knownT = true →
    PySem.W.kitAny K (.type t) its = some (Ts.any (subB t))
  | [], _, _, e, .nil, _ => by cases e; rfl
  | .ty T :: r, Ts, _, e, .cons rv rt, hk => by
    simp only [tys?] at e
    cases er : tys? r with
    | none => rw [er] at e; cases e
    | some q =>
      rw [er] at e
      cases e
      simp only [List.all_cons, Bool.and_eq_true] at hk
      cases rv
      have h1 := kitOne_of (K := K) ht (knownT_of hk.1)
      have h2 := tys_any (K := K) ht er rt hk.2
      unfold PySem.W.kitAny
      rw [h1]
      cases hb : subB t T with
      | true => simp [hb]
      | false => simp only [List.any_cons, hb, Bool.false_or]; exact h2
  | .non :: _, _, _, e, _, _ => by cases e
  | .bl _ :: _, _, _, e, _, _ => by cases e
  | .int _ :: _, _, _, e, _, _ => by cases e
  | .str _ :: _, _, _, e, _, _ => by cases e
  | .byt _ :: _, _, _, e, _, _ => by cases e
  | .flt _ :: _, _, _, e, _, _ => by cases e
  | .ref _ :: _, _, _, e, _, _ => by cases e
theorem c_isinstance : CallR X (.builtin "isinstance") fIsi := by
  intro pins s σ H xs us Q I r h
  unfold fIsi at h
  split at h
  · rename_i x T
    split at h
    · rename_i t et
      obtain ⟨u, c, rfl, rx, rc⟩ := vals2 r
      cases rc
      obtain ⟨ht, hu, H', hk, hH⟩ := tyN_kit (K := X.K) I rx et
      exact PySem.W.kia_one hk I.kIn hH (kitOne_of ht (knownT_of h.1)) hu fun tk => endB (I.tok _) h.2
    · exact h.elim
  · rename_i x p
    split at h
    · rename_i t ts et ep
      split at h
      · rename_i Ts eT
        obtain ⟨u, c, rfl, rx, rc⟩ := vals2 r
        cases rc
        obtain ⟨ht, hu, H', hk, hH⟩ := tyN_kit (K := X.K) I rx et
        obtain ⟨its, rv, pl, hz⟩ := I.tuple (tupR_sq ep)
        obtain ⟨⟨cls, dd, data, sl⟩, ho, hc, n, hd⟩ := id pl
        simp only at hc hd
        subst hc hd
        exact PySem.W.kia_tup hk I.kIn hH ho (tys_any ht eT rv h.1) hu fun tk => endB (I.tok _) h.2
      · exact h.elim
    · exact h.elim
  · exact h.elim
/-! ### all, any of a list of truths -/
def bls? : List V → Option (List Bool)
  | [] => some []
  | .bl b :: r => (bls? r).map (b :: ·)
  | _ => none
theorem bls?_map : ∀ bs : List Bool, bls? (bs.map V.bl) = some bs
  | [] => rfl
  | b :: bs => by simp only [List.map_cons, bls?, bls?_map bs, Option.map_some]
theorem bls?_of : ∀ {xs : List V} {bs : List Bool}, bls? xs = some bs → xs = bs.map V.bl
  | [], _, h => by cases h; rfl
  | .bl z :: r, ys, h => by
    simp only [bls?] at h
    cases e : bls? r with
    | none => rw [e] at h; cases h
    | some q => rw [e] at h; cases h; rw [bls?_of e]; rfl
  | .non :: _, _, h => by cases h
  | .str _ :: _, _, h => by cases h
  | .int _ :: _, _, h => by cases h
  | .byt _ :: _, _, h => by cases h
  | .flt _ :: _, _, h => by cases h
  | .ref _ :: _, _, h => by cases h
  | .ty _ :: _, _, h => by cases h
def fAll (f : List Bool → Bool) : List V → Hp → VK → Prop := fun xs H Q => match xs with
  | [.ref p] => (match lstR H p with
    | some ys => (match bls? ys with | some bs => Q (.bl (f bs)) H | none => False)
    | none => False)
  | _ => False
theorem range_all (bs : List Bool) : (List.range bs.length).all (fun i => bs.getD i true) = bs.all id := by
  rw [Bool.eq_iff_iff, List.all_eq_true, List.all_eq_true]
  constructor
  · intro h b hb
    obtain ⟨i, hi, rfl⟩ := List.mem_iff_getElem.mp hb
    have := h i (List.mem_range.mpr hi)
    simpa [List.getD_eq_getElem?_getD, hi] using this
  · intro h i hi
    have hi' := List.mem_range.mp hi
    have := h bs[i] (List.getElem_mem hi')
    simpa [List.getD_eq_getElem?_getD, hi'] using this
theorem c_all (hc : X.calm = true) : CallR X (.builtin "all") (fAll fun bs => bs.all id) := by
  intro pins s σ H xs us Q I r h
  unfold fAll at h
  split at h
  · rename_i p
    split at h
    · rename_i ys e
      split at h
      · rename_i bs eb
        obtain ⟨u, rfl, ru⟩ := vals1 r
        cases ru
        obtain ⟨its, rv, pl, hz⟩ := I.list (lstR_sq e)
        rw [bls?_of eb] at rv
        have hlen := rv.length
        rw [List.length_map] at hlen
        have hlt : p < s.heap.objs.size := by obtain ⟨o, ho, _⟩ := pl.isList; exact Heap.lt_size ho
        refine call_all_walk (wpAny_pyIter_list pl.isList ?_)
        refine ⟨s.heap.objs.size, _, _, _, _, _, (fun i => bs.getD i true), rfl, Walks.list (A := X.A.in1) (show X.A.in1.handled = none from I.ok.hd hc) s.heap.objs.size p (Nat.ne_of_lt hlt) its.toArray, ⟨⟨_, Heap.get?_push_size _ rfl, rfl, rfl⟩, ?_⟩, fun i v s' Q' E' hv hq => ?_, fun h' tk k => ?_⟩
        · obtain ⟨o, ho, q⟩ := pl.isList
          exact ⟨o, Heap.get?_push_of_some _ ho, q⟩
        · have hv' : its[i]? = some v := by simpa using hv
          have hil : i < its.length := (List.getElem?_eq_some_iff.mp hv').1
          obtain ⟨w', hw, rw'⟩ := rv.get (i := i) (x := V.bl (bs.getD i true)) (by rw [List.getElem?_map]; simp [List.getD_eq_getElem?_getD, show i < bs.length by omega])
          rw [hv'] at hw
          cases hw
          cases rw'
          exact wpAny_truthy_bool hq
        · have e2 : (List.range its.toArray.size).all (fun i => bs.getD i true) = bs.all id := by rw [List.size_toArray, ← hlen]; exact range_all bs
          rw [e2]
          have I1 : Inv X pins σ H { s with heap := s.heap.push { cls := .type "list_iterator", data := .fields #[.ref p, .int 0 0] }, toks := s.toks } := I.kept fun b u q => Heap.get?_push_of_some _ q
          have f1 := I.fpOk (H' := H) (b := s.heap.objs.size) (Nat.le_refl _) (I.hok.fresh (Nat.le_refl _))
          exact endB (I1.turned (t' := tk) (it := s.heap.objs.size) (fun b o hb q => k b o (by simpa using hb) q) f1.1 f1.2.1 f1.2.2.2.1 f1.2.2.2.2.1 f1.2.2.2.2.2) h
      · exact h.elim
    · exact h.elim
  · exact h.elim
end
/-! ### rows of known values -/
def Its (xs : List V) : It := ⟨fun i _ => i < xs.length, fun i H x H' => H' = H ∧ xs[i]? = some x, fun i _ => i = xs.length⟩
def chs (z : Str) : List V := z.cps.toList.map fun c => V.str ⟨#[c]⟩
theorem turn_walks {P : Program} {w : World} {K : PySem.W.Frag} {tg : Expr} {it : Addr} {n : Nat} {Pv : Nat → Value → Prop} {St : Nat → Heap → Prop} {xs : List V}
    (hW : ∀ A : Around, A.handled = none → Walks P w A it [it] [it] n Pv St) (hn : xs.length = n) (hx : ∀ i u, Pv i u → ∃ x, xs[i]? = some x ∧ RelV x u)
    (hobj : ∀ i h, St i h → ∃ o ty vs, h.get? it = some o ∧ o.cls = .type ty ∧ o.data = .fields vs ∧ ["enumerate", "zip", "dict_itemiterator", "dict_reverseitemiterator", "odict_iterator", "itertools.zip_longest", "itertools.pairwise"].contains ty = false)
    (hself : ∀ (A : Around) (i : Nat) (s : Shared) (Q : Value → Shared → Prop) (E : Value → Shared → Prop), St i s.heap → Q (.ref it) s → wpAny (model P w) A (pyIter (.ref it)) Q E s) :
    Turn P w K tg (Its xs) [it] it St where
  mem := by simp
  obj := fun i h st b hb => by
    have e : b = it := by simpa using hb
    subst e
    obtain ⟨o, ty, vs, ho, _, hd, _⟩ := hobj i h st
    exact ⟨o, ho, fun v z => by rw [hd] at z; cases z⟩
  keep := fun i h h' st k => (hW {} rfl).frame i h h' st k
  item := by
    intro X hP hw hK hc i pins s σ H E I hf st hg
    subst hP hw hK
    obtain ⟨f0, f1, f2, f3, f4, f5⟩ := hf it (by simp)
    have hlt : i < n := by rw [← hn]; exact hg
    refine (hW X.A (I.ok.hd hc)).item i s _ E hlt st fun v h' tk pv st' k => ?_
    obtain ⟨x, ex, rx⟩ := hx i v pv
    have I1 : Inv X pins σ H { s with heap := h', toks := tk } := I.turned (fun b o hb e => k b o (by simpa using hb) e) f0 f1 f3 f4 f5
    obtain ⟨o, ty, vs, ho, hcl, hd, hnn⟩ := hobj _ _ st'
    exact ⟨v, rfl, go_of (s := { s with heap := h', toks := tk }) ho hcl hd hnn ⟨x, H, I1, rx, ⟨rfl, ex⟩, st', fun b hb => (hf b hb).1⟩⟩
  done := by
    intro X hP hw hK hc i pins s σ H E I hf st hg
    subst hP hw hK
    obtain ⟨f0, f1, f2, f3, f4, f5⟩ := hf it (by simp)
    have e : i = n := by rw [← hn]; exact hg
    subst e
    exact (hW X.A (I.ok.hd hc)).done s _ E st fun h' tk k => ⟨rfl, I.turned (fun b o hb e => k b o (by simpa using hb) e) f0 f1 f3 f4 f5⟩
  self := hself
section
variable {X : Cx} {tg : Expr}
/-- a list, a tuple, a text, walked -/
def anyIt (K : PySem.W.Frag) (R : It → Hp → Prop) : V → Hp → Prop := fun x H1 => match x with
  | .str z => R (Its (chs z)) H1
  | .ref a => (∃ xs, SqL K H1 a xs ∧ R (Itl K a) H1) ∨ (∃ xs, SqT K H1 a xs ∧ R (Itt K a) H1)
  | _ => False
def iAny (K : PySem.W.Frag) (te : TE) : TI := fun σ H R => te σ H (anyIt K R)
theorem sign_rel {z : Str} {i : Nat} {u : Value} (h : SignAt z i u) : ∃ x, (chs z)[i]? = some x ∧ RelV x u := by
  obtain ⟨c, k, hc, rfl⟩ := h
  refine ⟨.str ⟨#[c]⟩, ?_, ⟨k, rfl⟩⟩
  unfold chs
  rw [List.getElem?_map, Array.getElem?_toList, hc]
  rfl
theorem pi_any {K : PySem.W.Frag} {l : Expr} {tl : TE} (hl : PE X l tl) (hK : X.K = K := by rfl) : PI X tg l (iAny K tl) := by
  subst hK
  intro pins s σ H R I h
  refine thn (hl pins s σ H _ I h) fun v s1 ⟨x, H1, I1, r1, q1⟩ => ?_
  have fresh1 : ∀ b ∈ [s1.heap.objs.size], FpOk X pins H1 b := fun b hb => by
    have e : b = s1.heap.objs.size := by simpa using hb
    subst e
    exact I1.fpOk (Nat.le_refl _) (I1.hok.fresh (Nat.le_refl _))
  have kept1 : ∀ ob : Obj, Inv X pins σ H1 { s1 with heap := s1.heap.push ob } := fun ob => I1.kept (t' := s1.toks) fun b o e => Heap.get?_push_of_some _ e
  unfold anyIt at q1
  split at q1
  · rename_i z
    obtain ⟨t, rfl⟩ := r1
    have hlen : (chs z).length = z.cps.size := by unfold chs; simp
    cases ha : z.cps.all (· < 128)
    · refine wpAny_pyIter_wide ha ⟨s1.heap.objs.size, [s1.heap.objs.size], _, _, H1, rfl, kept1 _, turn_walks (fun A hA => Walks.strWide hA s1.heap.objs.size z t) hlen (fun i u hu => sign_rel hu) ?_ (fun A i s Q E st q => wpAny_pyIter_striter_wide st q), ⟨_, Heap.get?_push_size _ rfl, rfl, rfl⟩, fresh1, q1⟩
      intro i h st
      obtain ⟨o, ho, hc, hd⟩ := st
      exact ⟨o, _, _, ho, hc, hd, by decide⟩
    · refine wpAny_pyIter_ascii ha ⟨s1.heap.objs.size, [s1.heap.objs.size], _, _, H1, rfl, kept1 _, turn_walks (fun A hA => Walks.strAscii hA s1.heap.objs.size z t) hlen (fun i u hu => sign_rel hu) ?_ (fun A i s Q E st q => wpAny_pyIter_striter_ascii st q), ⟨_, Heap.get?_push_size _ rfl, rfl, rfl⟩, fresh1, q1⟩
      intro i h st
      obtain ⟨o, ho, hc, hd⟩ := st
      exact ⟨o, _, _, ho, hc, hd, by decide⟩
  · rename_i a
    cases r1
    rcases q1 with ⟨xs, e, q1⟩ | ⟨xs, e, q1⟩
    · obtain ⟨its, rv, p, hz⟩ := I1.list e
      exact wpAny_pyIter_list p.isList ⟨s1.heap.objs.size, [s1.heap.objs.size], _, _, H1, rfl, kept1 _, turn_list a _, ⟨_, Heap.get?_push_size _ rfl, rfl, rfl⟩, fresh1, q1⟩
    · obtain ⟨its, rv, p, hz⟩ := I1.tuple e
      exact wpAny_pyIter_tuple (show s1.heap.IsTuple a its.toArray from p) ⟨s1.heap.objs.size, [s1.heap.objs.size], _, _, H1, rfl, kept1 _, turn_tuple a _, ⟨_, Heap.get?_push_size _ rfl, rfl, rfl⟩, fresh1, q1⟩
  · exact q1.elim
end
/-- a comprehension's turns, by an invariant over the turn and the items so far -/
theorem comp_of {J : It} {n : Nat} {val : Nat → V} {p : Addr} {g : TG} {tc : TT} {te : TE} {Q : VK} {σ0 : St} {H0 : Hp} (Pv : Nat → List V → St → Hp → Prop)
    (hgo : ∀ i acc σ H, i < n → Pv i acc σ H → J.go i H) (hst : ∀ acc σ H, Pv n acc σ H → J.stop n H) (hy : ∀ i acc σ H x H', i < n → Pv i acc σ H → J.yld i H x H' → H' = H ∧ x = val i)
    (h0 : Pv 0 [] σ0 H0) (hp : ∀ i acc σ H, Pv i acc σ H → H p = some (.lst acc) ∧ acc.length ≤ i) (hz : n ≤ sizeLine)
    (hs : ∀ i acc σ H, i < n → Pv i acc σ H → g (val i) σ H fun σ3 H3 => tc σ3 H3 fun b H4 =>
      if b = true then te σ3 H4 fun v H5 => H5 p = some (.lst acc) ∧ Pv (i + 1) (acc ++ [v]) σ3 (upd H5 p (.lst (acc ++ [v]))) else Pv (i + 1) acc σ3 H4)
    (hd : ∀ acc σ H, Pv n acc σ H → Q (.ref p) H) :
    CompRuns J p g tc te Q σ0 H0 := by
  refine ⟨fun i m acc σ H => m = n - i ∧ i ≤ n ∧ Pv i acc σ H, ⟨n, by simp, Nat.zero_le _, h0⟩, fun i m acc σ' H' w => ?_⟩
  obtain ⟨rfl, hi, q⟩ := w
  obtain ⟨q1, q2⟩ := hp i acc σ' H' q
  refine ⟨q1, ?_⟩
  by_cases hlt : i < n
  · refine .inr ⟨hgo i acc σ' H' hlt q, by omega, Pv (i + 1), fun a' σ3 H3 k => ⟨n - (i + 1), by omega, rfl, hlt, k⟩, fun x H2 y => ?_⟩
    obtain ⟨rfl, rfl⟩ := hy i acc σ' H' x H2 hlt q y
    exact hs i acc σ' _ hlt q
  · have e : i = n := by omega
    subst e
    exact .inl ⟨hst acc σ' H' q, hd acc σ' H' q⟩
/-- .. over a range -/
theorem comp_range {lo : Int} {n : Nat} {p : Addr} {g : TG} {tc : TT} {te : TE} {Q : VK} {σ0 : St} {H0 : Hp} (Pv : Nat → List V → St → Hp → Prop)
    (h0 : Pv 0 [] σ0 H0) (hp : ∀ i acc σ H, Pv i acc σ H → H p = some (.lst acc) ∧ acc.length ≤ i) (hz : n ≤ sizeLine)
    (hs : ∀ i acc σ H, i < n → Pv i acc σ H → g (.int (lo + i)) σ H fun σ3 H3 => tc σ3 H3 fun b H4 =>
      if b = true then te σ3 H4 fun v H5 => H5 p = some (.lst acc) ∧ Pv (i + 1) (acc ++ [v]) σ3 (upd H5 p (.lst (acc ++ [v]))) else Pv (i + 1) acc σ3 H4)
    (hd : ∀ acc σ H, Pv n acc σ H → Q (.ref p) H) : CompRuns (Itr lo n) p g tc te Q σ0 H0 :=
  comp_of (J := Itr lo n) (val := fun i => .int (lo + i)) Pv (fun _ _ _ _ h _ => h) (fun _ _ _ _ => Nat.le_refl n) (fun _ _ _ _ _ _ _ _ y => y) h0 hp hz hs hd
/-- .. over a list that stays as it is -/
theorem comp_list {K : PySem.W.Frag} {a : Addr} {xs : List V} {p : Addr} {g : TG} {tc : TT} {te : TE} {Q : VK} {σ0 : St} {H0 : Hp} (Pv : Nat → List V → St → Hp → Prop)
    (hl : ∀ i acc σ H, i ≤ xs.length → Pv i acc σ H → SqL K H a xs)
    (h0 : Pv 0 [] σ0 H0) (hp : ∀ i acc σ H, Pv i acc σ H → H p = some (.lst acc) ∧ acc.length ≤ i) (hz : xs.length ≤ sizeLine)
    (hs : ∀ i acc σ H, i < xs.length → Pv i acc σ H → g (xs.getD i .non) σ H fun σ3 H3 => tc σ3 H3 fun b H4 =>
      if b = true then te σ3 H4 fun v H5 => H5 p = some (.lst acc) ∧ Pv (i + 1) (acc ++ [v]) σ3 (upd H5 p (.lst (acc ++ [v]))) else Pv (i + 1) acc σ3 H4)
    (hd : ∀ acc σ H, Pv xs.length acc σ H → Q (.ref p) H) : CompRuns (Itl K a) p g tc te Q σ0 H0 :=
  comp_of (J := Itl K a) (n := xs.length) (val := fun i => xs.getD i .non) Pv
    (fun i acc σ H hi q => ⟨xs, xs[i], (hl i acc σ H (Nat.le_of_lt hi) q), by simp [hi]⟩) (fun acc σ H q => ⟨xs, (hl _ acc σ H (Nat.le_refl _) q), Nat.le_refl _⟩)
    (fun i acc σ H x _ hi q y => ⟨y.1, by have := y.2 xs (hl i acc σ H (Nat.le_of_lt hi) q); rw [List.getD_eq_getElem?_getD, this]; rfl⟩) h0 hp hz hs hd

/-! ### methods of Python's own values -/
section
variable {X : Cx} {o e : Expr} {es : List Expr} {to : TE} {t : TA} {name : Str} {apos cpos : Pos} {T id : String} {r : V → List V → Hp → VK → Prop}
theorem pe_bmK {K : PySem.W.Frag} (pa : PlainAttrs T) (slot : Slot T name id) (hty : typeOf (.builtin id) = pure (.type "method_descriptor")) (hm : MtR X id r) (ho : PE X o to) (ha : PA X (e :: es) t) (hK : X.K = K := by rfl)
    (hb : attributeBase o name X.env (eval o X.env) = eval o X.env := by rfl)
    (hf : ((backTo cpos (starEach (e :: es) X.env)).all (fun x => !x.1) && (backToKw cpos (keywordEach [] X.env)).all (fun x => x.1.isSome) && decide ((e :: es).length + ([] : List Keyword).length + (if ([] : List Keyword).isEmpty then 0 else 1) < 30)) = true := by rfl)
    (hl : (apos.endLine == cpos.line) = true := by rfl) (he : starEach (e :: es) X.env = (false, eval e X.env) :: starEach es X.env := by rfl) (hpl : (backTo cpos (starEach es X.env)).any (·.1) = false := by rfl) : PE X (.Call (.Attribute o name apos) (e :: es) [] cpos) (tBM K T r to t) := by
  subst hK
  exact pe_bm pa slot hty hm ho ha hb hf hl he hpl
end
/-! ### a store into a list -/
def fSet : V → V → V → Hp → (Hp → Prop) → Prop := fun o i v H Q => match o, i with
  | .ref p, .int k => (match H p with
    | some (.lst xs) => (match ixN xs.length k with | some j => Q (upd H p (.lst (xs.set j v))) | none => False)
    | _ => False)
  | _, _ => False
theorem set_l {X : Cx} : PSet X fSet := fun pins s σ H o i v ov iv u Q I ro ri rv h => by
  unfold fSet at h
  split at h
  · split at h
    · rename_i xs e
      split at h
      · rename_i j ej
        exact set_list pins s σ H _ _ v ov iv u Q I ro ri rv ⟨_, _, _, _, rfl, rfl, e, ej, h⟩
      · exact h.elim
    · exact h.elim
  · exact h.elim
/-! ### a def of the text, known by its promise -/
structure Dn (P : Program) (w : World) (K : PySem.W.Frag) (mg : Str → Option Value) (base : Heap) (x : Str) (k : Nat) (ps : List Str) (sp : Sp) : Prop where
  ex : ∃ (f : Addr) (fd : FuncData), mg x = some (.ref f) ∧ PySem.W.keepIn K (.ref f) = true ∧ Binds K fd ps [] ∧ FnOk P w K mg base CX0 k f fd ps sp
theorem pe_callD {X : Cx} {x : Str} {k : Nat} {ps : List Str} {sp : Sp} {e : Expr} {es : List Expr} {t : TA} {p pos : Pos} (D : Dn X.prog X.w X.K X.mg X.base x k ps sp) (hr : Room k X.A) (hg : Gl X x) (ha : PA X (e :: es) t)
    (hdb : (x == ("__debug__" : Str)) = false := by decide) (he : starEach (e :: es) X.env = (false, eval e X.env) :: starEach es X.env := by rfl) (hpl : (backTo pos (starEach es X.env)).any (·.1) = false := by rfl) :
    PE X (.Call (.Name x p) (e :: es) [] pos) (tCall sp [] E0 t) := by
  obtain ⟨f, fd, h1, h2, h3, h4⟩ := D.ex
  exact pe_call h4 hr hg h1 h2 h3 .nil pass0 ha hdb he hpl
end L2

set_option linter.all false
set_option maxRecDepth 100000
namespace L2
open PySem
open Sem (wp)
open AutoSeq1 (wpAny_loadPart')
section
variable {prog : Program} {w : World} {A : Around} {E : Value → Shared → Prop} {s : Shared}
end
set_option maxHeartbeats 4000000 in
set_option maxHeartbeats 4000000 in
section
variable {prog : Program} {w : World} {A : Around} {E : Value → Shared → Prop} {s : Shared}
set_option maxHeartbeats 4000000 in
end
end L2

set_option Elab.async false
set_option linter.all false
set_option maxRecDepth 100000
namespace L2
open PySem PySem.Spec PyProof.Rows
/-! ### enumerate -/
section
variable {X : Cx} {pins : List (Addr × Obj)} {σ : St} {H : Hp} {s : Shared} {h' : Heap}
end
section
variable {X : Cx}
end
/-! enumerate(.., start=n) -/
section
variable {X : Cx}
end
end L2

set_option Elab.async false
set_option linter.all false
set_option maxRecDepth 100000
namespace L2
open PySem PySem.Spec PyProof.Rows
/-! ### the readings, step by step, from the outside -/
section
variable {σ : St} {H : Hp} {D : Ends} {Q : VK} {QB : Bool → Hp → Prop} {QA : List V → Hp → Prop}
theorem i_seq {t u : TS} (h : t { D with nx := u D } σ H) : tSeq t u D σ H := h
theorem i_ifs {c : TT} {t u : TS} (h : c σ H fun b H1 => if b = true then t D σ H1 else u D σ H1) : tIfS c t u D σ H := h
theorem i_next (h : D.nx σ H) : tNext D σ H := h
theorem i_ret {te : TE} (h : te σ H D.rt) : tRet te D σ H := h
theorem i_drop {te : TE} (h : te σ H fun _ H1 => D.nx σ H1) : tDrop te D σ H := h
theorem i_asg {te : TE} {g : TG} (h : te σ H fun x H1 => g x σ H1 D.nx) : tAsg te g D σ H := h
theorem i_name {i : Nat} {v : V} {K : St → Hp → Prop} (h : K (σ.set i (some v)) H) : gName i v σ H K := h
theorem i_gsub {to ti : TE} {t : TSet} {v : V} {K : St → Hp → Prop} (h : to σ H fun o H1 => ti σ H1 fun i H2 => t o i v H2 fun H3 => K σ H3) : gSub to ti t v σ H K := h
theorem i_gtup {K' : PySem.W.Frag} {n : Nat} {t : TGs} {a : Addr} {xs : List V} {K : St → Hp → Prop} (h1 : H a = some (.tup xs)) (h2 : xs.length = n) (h : t xs σ H K) : gTup K' n t (.ref a) σ H K := ⟨a, xs, rfl, SqT.of h1, h2, h⟩
theorem i_gnil {K : St → Hp → Prop} (h : K σ H) : gNil [] σ H K := ⟨rfl, h⟩
theorem i_gcons {t : TG} {u : TGs} {v : V} {r : List V} {K : St → Hp → Prop} (h : t v σ H fun σ' H' => u r σ' H' K) : gCons t u (v :: r) σ H K := ⟨v, r, rfl, h⟩
theorem i_for {wi : TI} {g : TG} {tb : TS} (h : wi σ H fun J H1 => ∃ W : Nat → Nat → St → Hp → Prop, (∃ m, W 0 m σ H1) ∧ ∀ i m σ H, W i m σ H →
  (J.stop i H ∧ D.nx σ H) ∨ (J.go i H ∧ ∃ N : St → Hp → Prop, (∀ σ' H', N σ' H' → ∃ m', m' < m ∧ W (i + 1) m' σ' H') ∧ ∀ x H', J.yld i H x H' → g x σ H' fun σ2 H2 => tb { D with nx := N, ct := N, bk := D.nx } σ2 H2)) : tFor wi g tb D σ H := h
theorem i_var {i : Nat} {v : V} (e : σ[i]? = some (some v)) (h : Q v H) : tVar i σ H Q := ⟨v, e, h⟩
theorem i_c {v : V} (h : Q v H) : tC v σ H Q := h
theorem i_op {r : R2} {ta tb : TE} (h : ta σ H fun x H1 => tb σ H1 fun y H2 => r x y H2 Q) : tOp r ta tb σ H Q := h
theorem i_test {t : TE} (h : t σ H fun x H' => ∃ k, x = .bl k ∧ QB k H') : tTest t σ H QB := h
theorem i_bl {b : Bool} {P : Bool → Prop} (h : P b) : ∃ k, V.bl b = .bl k ∧ P k := ⟨b, rfl, h⟩
theorem i_and {t u : TT} (h : t σ H fun c H1 => if c = true then u σ H1 QB else QB false H1) : tAnd t u σ H QB := h
theorem i_or {t u : TT} (h : t σ H fun c H1 => if c = true then QB true H1 else u σ H1 QB) : tOr t u σ H QB := h
theorem i_not {t : TT} (h : t σ H fun c H1 => QB (!c) H1) : tNot t σ H QB := h
theorem i_andV {ta tb : TE} (h : ta σ H fun x H1 => ∃ c, x = .bl c ∧ if c = true then tb σ H1 Q else Q (.bl false) H1) : tAndV ta tb σ H Q := h
theorem i_ifE {t : TT} {ta tb : TE} (h : t σ H fun c H1 => if c = true then ta σ H1 Q else tb σ H1 Q) : tIf t ta tb σ H Q := h
theorem i_nil (h : QA [] H) : tNil σ H QA := h
theorem i_cons {ta : TE} {tr : TA} (h : ta σ H fun x H1 => tr σ H1 fun xs H2 => QA (x :: xs) H2) : tCons ta tr σ H QA := h
theorem i_cb {r : List V → Hp → VK → Prop} {t : TA} (h : t σ H fun vs H1 => r vs H1 Q) : tCB r t σ H Q := h
theorem i_call {sp : Sp} {dvs : List V} {E : XK} {t : TA} (h : t σ H fun vs H1 => sp (vs ++ dvs) H1 Q E) : tCall sp dvs E t σ H Q := h
theorem i_lst {t : TA} (h : t σ H fun xs H1 => xs.length ≤ sizeLine ∧ ∀ p, H1 p = none → Q (.ref p) (upd H1 p (.lst xs))) : tLst t σ H Q := h
theorem i_tup {t : TA} (h : t σ H fun xs H1 => xs.length ≤ sizeLine ∧ ∀ p, H1 p = none → Q (.ref p) (upd H1 p (.tup xs))) : tTup t σ H Q := h
theorem i_bm {K : PySem.W.Frag} {T : String} {r : V → List V → Hp → VK → Prop} {to : TE} {t : TA} (h : to σ H fun x H1 => tyV K T x H1 ∧ t σ H1 fun xs H2 => r x xs H2 Q) : tBM K T r to t σ H Q := h
theorem i_sl {r : V → Option Int → Option Int → Hp → VK → Prop} {te : TE} {tl th : TO} (h : te σ H fun x H1 => tl σ H1 fun l H2 => th σ H2 fun u H3 => r x l u H3 Q) : tSl r te tl th σ H Q := h
theorem i_nopart {K : Option Int → Hp → Prop} (h : K none H) : tNoPart σ H K := h
theorem i_part {t : TE} {K : Option Int → Hp → Prop} (h : t σ H fun x H1 => ∃ i, x = .int i ∧ K (some i) H1) : tPart t σ H K := h
theorem i_exI {i : Int} {P : Int → Prop} (h : P i) : ∃ k, V.int i = .int k ∧ P k := ⟨i, rfl, h⟩
theorem i_comp {ix : List (Option Nat)} {wi : TI} {g : TG} {tc : TT} {te : TE} (h : wi σ H fun J H1 => ∀ p, H1 p = none → CompRuns J p g tc te Q (pick ix σ) (upd H1 p (.lst []))) : tComp ix wi g tc te σ H Q := h
theorem i_true (h : QB true H) : tTrue σ H QB := h
theorem i_rng1 {ta : TA} {R : It → Hp → Prop} (h : ta σ H fun vs H1 => ∃ j : Int, vs = [.int j] ∧ -(2 ^ 62) ≤ j ∧ j < 2 ^ 62 ∧ R (Itr 0 j.toNat) H1) : iRng1 ta σ H R := h
theorem p62 : ((2 : Int) ^ 62) = 4611686018427387904 := by decide
theorem p63 : ((2 : Int) ^ 63) = 9223372036854775808 := by decide
theorem i_r1 {j : Int} {P : Int → Prop} (h1 : -1000000000 ≤ j ∧ j ≤ 1000000000) (h : P j) : ∃ k : Int, [V.int j] = [.int k] ∧ -(2 ^ 62) ≤ k ∧ k < 2 ^ 62 ∧ P k := ⟨j, rfl, by rw [p62]; omega, by rw [p62]; omega, h⟩
theorem i_rng2 {ta : TA} {R : It → Hp → Prop} (h : ta σ H fun vs H1 => ∃ i j : Int, vs = [.int i, .int j] ∧ (-(2 ^ 62) ≤ i ∧ i < 2 ^ 62 ∧ -(2 ^ 62) ≤ j ∧ j < 2 ^ 62) ∧ R (Itr i (j - i).toNat) H1) : iRng2 ta σ H R := h
theorem i_r2 {i j : Int} {P : Int → Int → Prop} (h1 : -1000000000 ≤ i ∧ i ≤ 1000000000 ∧ -1000000000 ≤ j ∧ j ≤ 1000000000) (h : P i j) : ∃ a b : Int, [V.int i, V.int j] = [.int a, .int b] ∧ (-(2 ^ 62) ≤ a ∧ a < 2 ^ 62 ∧ -(2 ^ 62) ≤ b ∧ b < 2 ^ 62) ∧ P a b := ⟨i, j, rfl, by rw [p62]; omega, h⟩
theorem i_any {K : PySem.W.Frag} {te : TE} {R : It → Hp → Prop} (h : te σ H (anyIt K R)) : iAny K te σ H R := h
theorem i_anyL {K : PySem.W.Frag} {R : It → Hp → Prop} {a : Addr} {xs : List V} (h1 : SqL K H a xs) (h : R (Itl K a) H) : anyIt K R (.ref a) H := .inl ⟨xs, h1, h⟩
theorem i_tyS {K : PySem.W.Frag} {z : Str} {R : Prop} (h : R) : tyV K "str" (.str z) H ∧ R := ⟨rfl, h⟩
theorem i_tyL {K : PySem.W.Frag} {p : Addr} {xs : List V} {R : Prop} (h1 : SqL K H p xs) (h : R) : tyV K "list" (.ref p) H ∧ R := ⟨.inl ⟨rfl, xs, h1⟩, h⟩
/-! values -/
theorem i_fI0 {g : Int → Int → V} {i j : Int} (h : Q (g i j) H) : fI0 g (.int i) (.int j) H Q := h
theorem i_fI {C : Int → Int → Prop} {g : Int → Int → V} {i j : Int} (c : C i j) (h : Q (g i j) H) : fI C g (.int i) (.int j) H Q := ⟨c, h⟩
theorem i_addI {i j : Int} (h : Q (.int (i + j)) H) : fAdd (.int i) (.int j) H Q := h
theorem i_addL {a b : Addr} {xs ys : List V} (h1 : H a = some (.lst xs)) (h2 : H b = some (.lst ys)) (c : xs.length + ys.length ≤ sizeLine) (h : ∀ p, H p = none → Q (.ref p) (upd H p (.lst (xs ++ ys)))) : fAdd (.ref a) (.ref b) H Q := by
  show (match H a, H b with | some (.lst xs), some (.lst ys) => _ | some (.tup xs), some (.tup ys) => _ | _, _ => _)
  rw [h1, h2]; exact ⟨c, h⟩
theorem i_mulI {i j : Int} (c : CMul i j) (h : Q (.int (i * j)) H) : fMul (.int i) (.int j) H Q := ⟨c, h⟩
theorem i_mulL {a : Addr} {xs : List V} {k : Int} (h1 : H a = some (.lst xs)) (c : -1000000000 ≤ k ∧ k ≤ 1000000000 ∧ xs.length * k.toNat ≤ 1000000) (h : ∀ p, H p = none → Q (.ref p) (upd H p (.lst (List.replicate k.toNat xs).flatten))) : fMul (.ref a) (.int k) H Q := by
  show (match H a with | some (.lst xs) => _ | _ => _)
  rw [h1]; exact ⟨by rw [p63]; omega, by rw [p63]; omega, Nat.le_trans c.2.2 (by decide), h⟩
theorem i_ixK {K : PySem.W.Frag} {p : Addr} {i : Int} {xs : List V} {v : V} (h1 : SqL K H p xs) (h2 : atI xs i = some v) (h : Q v H) : fIx K (.ref p) (.int i) H Q := ⟨xs, v, .inl h1, h2, h⟩
theorem i_ixR {K : PySem.W.Frag} {p : Addr} {i : Int} {xs : List V} {v : V} (h1 : seqR H p = some xs) (h2 : atI xs i = some v) (h : Q v H) : fIx K (.ref p) (.int i) H Q := ⟨xs, v, seqR_sq h1, h2, h⟩
theorem i_ixS {K : PySem.W.Frag} {z : Str} {i : Int} {c : Nat} (hz : z.length ≤ sizeLine) (h2 : atI z.cps.toList i = some c) (h : Q (.str ⟨#[c]⟩) H) : fIx K (.str z) (.int i) H Q := by
  refine ⟨hz, ?_⟩
  rw [h2]; exact h
theorem i_set {p : Addr} {k : Int} {v : V} {xs : List V} {j : Nat} {K : Hp → Prop} (h1 : H p = some (.lst xs)) (h2 : ixN xs.length k = some j) (h : K (upd H p (.lst (xs.set j v)))) : fSet (.ref p) (.int k) v H K := by
  show (match H p with | some (.lst xs) => (match ixN xs.length k with | some j => K (upd H p (.lst (xs.set j v))) | none => False) | _ => False)
  rw [h1]; dsimp only; rw [h2]; exact h
theorem i_eq {x y : V} (c : scal x y = true) (h : Q (.bl (decide (x = y))) H) : fEq x y H Q := .inl ⟨c, h⟩
theorem i_ne {x y : V} (c : scal x y = true) (h : Q (.bl (!decide (x = y))) H) : fNe x y H Q := .inl ⟨c, h⟩
theorem i_eqD {x y : V} {d e : Dt} (h1 : Is H x d) (h2 : Is H y e) (c : okD d) (c2 : okD e) (h : Q (.bl (eqD d e)) H) : fEq x y H Q := .inr ⟨d, e, h1, h2, c, c2, h⟩
theorem i_is {x : V} (h : Q (.bl (decide (x = .non))) H) : fIs x .non H Q := ⟨rfl, h⟩
theorem i_inR {neg : Bool} {x : V} {p : Addr} {xs : List V} (h1 : seqR H p = some xs) (c : flatV x = true ∧ xs.all flatV = true) (h : Q (.bl (if neg then !inV x xs else inV x xs)) H) : fIn neg x (.ref p) H Q := by
  unfold fIn
  cases x <;> (dsimp only; rw [h1]; exact ⟨c.1, c.2, h⟩)
theorem i_lenS {K : PySem.W.Frag} {z : Str} (hz : z.length ≤ sizeLine) (h : Q (.int z.length) H) : fLen K [.str z] H Q := ⟨hz, h⟩
theorem i_lenK {K : PySem.W.Frag} {p : Addr} {xs : List V} (h1 : SqL K H p xs) (h : Q (.int xs.length) H) : fLen K [.ref p] H Q := ⟨xs, .inl h1, h⟩
theorem i_lenR {K : PySem.W.Frag} {p : Addr} {xs : List V} (h1 : seqR H p = some xs) (h : Q (.int xs.length) H) : fLen K [.ref p] H Q := ⟨xs, seqR_sq h1, h⟩
theorem i_1I {g : Int → V} {i : Int} (h : Q (g i) H) : f1I g [.int i] H Q := h
theorem i_listR {p : Addr} {xs : List V} (h1 : seqR H p = some xs) (h : ∀ q, H q = none → Q (.ref q) (upd H q (.lst xs))) : fList [.ref p] H Q := by
  show (match seqR H p with | some ys => GetL H ys Q | none => False)
  rw [h1]; exact h
theorem i_tupleR {p : Addr} {xs : List V} (h1 : seqR H p = some xs) (h : GetT H xs Q) : fTuple [.ref p] H Q := by
  show (match seqR H p with | some ys => GetT H ys Q | none => False)
  rw [h1]; exact h
theorem i_slS {K : PySem.W.Frag} {z : Str} {lo hi : Option Int} (hz : z.length ≤ sizeLine) (h : Q (.str (Txt.slice z lo hi)) H) : fSl K (.str z) lo hi H Q := ⟨hz, h⟩
theorem i_slL {K : PySem.W.Frag} {a : Addr} {xs : List V} {lo hi : Option Int} (h1 : SqL K H a xs) (h : ∀ q, H q = none → Q (.ref q) (upd H q (.lst (cutV xs lo hi)))) : fSl K (.ref a) lo hi H Q := .inl ⟨xs, h1, h⟩
theorem i_truB {b : Bool} (h : QB b H) : fTru (.bl b) H QB := h
theorem i_join {z : Str} {p : Addr} {ys : List Str} (h1 : lstR H p = some (ys.map V.str)) (c : (ys.map (·.length)).sum + ys.length * z.length ≤ 16777216) (h : Q (.str (Txt.join z ys)) H) : fJoin (.str z) [.ref p] H Q := by
  show (match lstR H p with | some xs => (match strs? xs with | some ys => (ys.map (·.length)).sum + ys.length * z.length ≤ 16777216 ∧ Q (.str (Txt.join z ys)) H | none => False) | none => False)
  rw [h1]; dsimp only; rw [strs?_map]; exact ⟨c, h⟩
theorem i_allL {f : List Bool → Bool} {p : Addr} {bs : List Bool} (h1 : lstR H p = some (bs.map V.bl)) (h : Q (.bl (f bs)) H) : fAll f [.ref p] H Q := by
  show (match lstR H p with | some ys => (match bls? ys with | some bs => Q (.bl (f bs)) H | none => False) | none => False)
  rw [h1]; dsimp only; rw [bls?_map]; exact h
theorem i_isi {x : V} {t T : String} (h1 : tyN H x = some t) (c : knownT T = true) (h : Q (.bl (subB t T)) H) : fIsi [x, .ty T] H Q := by
  show (match tyN H x with | some t => knownT T = true ∧ Q (.bl (subB t T)) H | none => False)
  rw [h1]; exact ⟨c, h⟩
theorem i_isi2 {x : V} {p : Addr} {t T T' : String} (h1 : tyN H x = some t) (h2 : H p = some (.tup [.ty T, .ty T'])) (c : knownT T = true ∧ knownT T' = true) (h : Q (.bl (subB t T || subB t T')) H) : fIsi [x, .ref p] H Q := by
  show (match tyN H x, tupR H p with | some t, some ts => (match tys? ts with | some Ts => Ts.all knownT = true ∧ Q (.bl (Ts.any (subB t))) H | none => False) | _, _ => False)
  rw [h1, tupR_of h2]
  show [T, T'].all knownT = true ∧ Q (.bl ([T, T'].any (subB t))) H
  refine ⟨by simp [c.1, c.2], ?_⟩
  have e : [T, T'].any (subB t) = (subB t T || subB t T') := by simp
  rw [e]; exact h
end
/-! small facts -/
theorem iteD {c A B : Prop} [Decidable c] (h1 : c → A) (h2 : ¬ c → B) : if decide c = true then A else B := by
  by_cases h : c
  · rw [if_pos (decide_eq_true h)]; exact h1 h
  · rw [if_neg (by rw [decide_eq_false h]; exact Bool.false_ne_true)]; exact h2 h
theorem iteDT {c A B : Prop} [Decidable c] (hc : c) (h : A) : if decide c = true then A else B := by rw [if_pos (decide_eq_true hc)]; exact h
theorem iteDF {c A B : Prop} [Decidable c] (hc : ¬ c) (h : B) : if decide c = true then A else B := by rw [if_neg (by rw [decide_eq_false hc]; exact Bool.false_ne_true)]; exact h
theorem iteBT {b : Bool} {A B : Prop} (h : b = true) (hA : A) : if b = true then A else B := by rw [if_pos h]; exact hA
theorem iteBF {b : Bool} {A B : Prop} (h : b = false) (hB : B) : if b = true then A else B := by rw [h]; exact iteF hB
theorem szc {xs : List V} (h : decide (xs.length ≤ 1000) = true) : xs.length ≤ sizeLine := Nat.le_trans (of_decide_eq_true h) (by decide)
theorem szn {n : Nat} (h : n ≤ 1000000) : n ≤ sizeLine := Nat.le_trans h (by decide)
theorem i_sz {xs : List V} {R : Prop} (h : xs.length ≤ sizeLine) (r : R) : xs.length ≤ sizeLine ∧ R := ⟨h, r⟩
theorem tyN_tup {H : Hp} {a : Addr} {xs : List V} (h : H a = some (.tup xs)) : tyN H (.ref a) = some "tuple" := by
  show (match H a with | some (.lst _) => some "list" | some (.frz _ (.lst _)) => some "list" | some (.tup _) => some "tuple" | _ => none) = _
  rw [h]
theorem tyN_lst {H : Hp} {a : Addr} {xs : List V} (h : H a = some (.lst xs)) : tyN H (.ref a) = some "list" := by
  show (match H a with | some (.lst _) => some "list" | some (.frz _ (.lst _)) => some "list" | some (.tup _) => some "tuple" | _ => none) = _
  rw [h]
theorem same_new {H : Hp} {p : Addr} (h : H p = none) (o : HO) : Same H (upd H p o) := fun b u q => by rw [upd_ne (ne_of_none q h)]; exact q
theorem iteB {b : Bool} {A B : Prop} (h1 : b = true → A) (h2 : b = false → B) : if b = true then A else B := by
  cases b
  · exact iteF (h2 rfl)
  · exact iteT (h1 rfl)
theorem atI_0 {α : Type} (x : α) (xs : List α) : atI (x :: xs) 0 = some x := atI_nat (xs := x :: xs) (j := 0) (v := x) rfl
theorem atI_1 {α : Type} (x y : α) (xs : List α) : atI (x :: y :: xs) 1 = some y := atI_nat (xs := x :: y :: xs) (j := 1) (v := y) rfl
theorem atI_2 {α : Type} (x y z : α) (xs : List α) : atI (x :: y :: z :: xs) 2 = some z := atI_nat (xs := x :: y :: z :: xs) (j := 2) (v := z) rfl
theorem atI_3 {α : Type} (x y z u : α) (xs : List α) : atI (x :: y :: z :: u :: xs) 3 = some u := atI_nat (xs := x :: y :: z :: u :: xs) (j := 3) (v := u) rfl
theorem ixN_of {n : Nat} {i : Int} (h : 0 ≤ i) (h2 : i < n) : ixN n i = some i.toNat := by
  unfold ixN; rw [if_pos h, if_pos h2]
theorem seqR_upd {H : Hp} {p : Addr} {xs : List V} : seqR (upd H p (.lst xs)) p = some xs := seqR_lst upd_same
theorem lstR_upd {H : Hp} {p : Addr} {xs : List V} : lstR (upd H p (.lst xs)) p = some xs := lstR_of upd_same
theorem seqR_updT {H : Hp} {p : Addr} {xs : List V} : seqR (upd H p (.tup xs)) p = some xs := seqR_tup upd_same
theorem atI_of {α : Type} {xs : List α} {i : Int} {v : α} (h : 0 ≤ i) (h2 : xs[i.toNat]? = some v) : atI xs i = some v := by
  have e : i = ((i.toNat : Nat) : Int) := by omega
  rw [e]; exact atI_nat h2
theorem CMul.l {i j : Int} (h1 : -(2 ^ 64) < i) (h2 : i < 2 ^ 64) : CMul i j := .inl ⟨h1, h2⟩
theorem CMul.r {i j : Int} (h1 : -(2 ^ 64) < j) (h2 : j < 2 ^ 64) : CMul i j := .inr ⟨h1, h2⟩
/-- only p has changed -/
def Off (p : Addr) (H H' : Hp) : Prop := ∀ b, b ≠ p → H' b = H b
/-- all but p has stayed; there may be more -/
def Kept (p : Addr) (H H' : Hp) : Prop := ∀ b o, b ≠ p → H b = some o → H' b = some o
theorem Off.kept {p : Addr} {H H' : Hp} (h : Off p H H') : Kept p H H' := fun b o hb e => (h b hb).trans e
theorem Off.refl (p : Addr) (H : Hp) : Off p H H := fun _ _ => rfl
theorem Off.trans {p : Addr} {H H1 H2 : Hp} (a : Off p H H1) (b : Off p H1 H2) : Off p H H2 := fun c hc => (b c hc).trans (a c hc)
theorem Off.upd {p : Addr} {H H1 : Hp} (a : Off p H H1) (o : HO) : Off p H (L2.upd H1 p o) := fun c hc => (upd_ne hc).trans (a c hc)
theorem Kept.trans {p : Addr} {H H1 H2 : Hp} (a : Kept p H H1) (b : Kept p H1 H2) : Kept p H H2 := fun c o hc e => b c o hc (a c o hc e)
theorem Kept.new {p q : Addr} {H H1 : Hp} (a : Kept p H H1) (hq : H1 q = none) (o : HO) : Kept p H (L2.upd H1 q o) := fun c u hc e => by
  rw [upd_ne (ne_of_none (a c u hc e) hq)]; exact a c u hc e
end L2

set_option Elab.async false
set_option linter.all false
set_option maxRecDepth 100000
namespace L2
open PySem PySem.Spec PyProof.Rows
/-! ### written data -/


end L2

set_option Elab.async false
set_option linter.all false
set_option maxRecDepth 100000
namespace L2
open PySem PySem.Spec PyProof.Rows
/-- small letters -/
def LET : Str := S [97, 98, 99, 100, 101, 102, 103, 104, 105, 106, 107, 108, 109, 110, 111, 112, 113, 114, 115, 116, 117, 118, 119, 120, 121, 122]
theorem let_eq : Str.ofString "abcdefghijklmnopqrstuvwxyz" = LET := by decide +kernel
/-! ### a drawing's feed -/
def FeedAt (H : Hp) (p : Addr) (n : Nat) : Prop := ∃ a b c : Int, H p = some (.lst [.int a, .int b, .int c]) ∧ 0 ≤ a ∧ 0 ≤ b ∧ b < 2147483399 ∧ 0 ≤ c ∧ c ≤ n
theorem FeedAt.mono {H : Hp} {p : Addr} {n m : Nat} (h : FeedAt H p n) (e : n ≤ m) : FeedAt H p m := by
  obtain ⟨a, b, c, h1, h2, h3, h4, h5, h6⟩ := h
  exact ⟨a, b, c, h1, h2, h3, h4, h5, by omega⟩
theorem FeedAt.new {H : Hp} {p q : Addr} {n : Nat} {o : HO} (h : FeedAt H p n) (hq : H q = none) : FeedAt (upd H q o) p n := by
  obtain ⟨a, b, c, h1, r⟩ := h
  exact ⟨a, b, c, by rw [upd_ne (ne_of_none h1 hq)]; exact h1, r⟩
theorem FeedAt.some {H : Hp} {p : Addr} {n : Nat} (h : FeedAt H p n) : ∃ o, H p = some o := by
  obtain ⟨a, b, c, h1, r⟩ := h
  exact ⟨_, h1⟩
def feedTop : Nat := 1000000
/-- a new feed -/
def spFeed (K : PySem.W.Frag) : Sp := fun vs H Q _ => ∃ (a : Addr) (ns : List Int) (k : Int), vs = [.ref a, .int k] ∧ SqL K H a (ns.map V.int) ∧ 0 ≤ k ∧ k < 1000 ∧
  ∀ (p : Addr) (H' : Hp), H p = none → FeedAt H' p 0 → Off p H H' → Q (.ref p) H'
/-- a draw: any number below m -/
def spNext : Sp := fun vs H Q _ => ∃ (p : Addr) (m : Int) (n : Nat), vs = [.ref p, .int m] ∧ FeedAt H p n ∧ n < feedTop ∧ 0 < m ∧ m < 1073741824 ∧
  ∀ (d : Int) (H' : Hp), 0 ≤ d → d < m → FeedAt H' p (n + 1) → Off p H H' → Q (.int d) H'
/-- some letters -/
def spLetters : Sp := fun vs H Q _ => ∃ (p : Addr) (n : Nat), vs = [.ref p] ∧ FeedAt H p n ∧ n + 3 < feedTop ∧
  ∀ (l : List Nat) (H' : Hp), Low l → 2 ≤ l.length → l.length ≤ 26 → FeedAt H' p (n + 3) → Off p H H' → Q (.str (S l)) H'
/-- a word of at most m letters -/
def spWord : Sp := fun vs H Q _ => ∃ (p : Addr) (n : Nat) (l : List Nat) (m : Nat), vs = [.ref p, .str (S l), .int m] ∧ FeedAt H p n ∧ n + 30 < feedTop ∧ Low l ∧ 1 ≤ l.length ∧ l.length ≤ 26 ∧ 1 ≤ m ∧ m ≤ 25 ∧
  ∀ (w : List Nat) (H' : Hp), Low w → 1 ≤ w.length → w.length ≤ m → FeedAt H' p (n + 30) → Kept p H H' → Q (.str (S w)) H'
/-- two that are alike are told so -/
def spAlike (n : Nat) : Sp := fun vs H Q _ => ∃ (u v : V) (d : Dt), vs = [u, v] ∧ Is H u d ∧ Is H v d ∧ dep d < n ∧ wid d ≤ 100000 ∧ ∀ H', Same H H' → Q (.bl true) H'
end L2

set_option Elab.async false
set_option linter.all false
set_option maxRecDepth 100000
namespace L2
open PySem PySem.Spec PyProof.Rows
/-! ### texts: what the operations give -/
theorem slice_S (l : List Nat) (lo hi : Option Int) : Txt.slice (S l) lo hi = S (cutA l lo hi) := slice_raw l lo hi
theorem join_S (sep : List Nat) (ls : List (List Nat)) : Txt.join (S sep) (ls.map S) = S (joinL sep ls) := by
  show Builtin.Str.glued (S sep) (ls.map S) = _
  rw [StrLaws.glued_eq_join, joinS]
theorem cut_plain {α : Type} (l : List α) (i j : Nat) (h : j ≤ l.length) (hij : i ≤ j) : cutA l (some (i : Int)) (some (j : Int)) = (l.drop i).take (j - i) := by
  unfold cutA
  have e1 : sx l.length 0 (some (i : Int)) = i := by simp only [sx]; rw [if_neg (by omega)]; omega
  have e2 : sx l.length l.length (some (j : Int)) = j := by simp only [sx]; rw [if_neg (by omega)]; omega
  rw [e1, e2]
theorem cutV_eq (xs : List V) (lo hi : Option Int) : cutV xs lo hi = cutA xs lo hi := rfl
theorem Low_cut {l : List Nat} (h : Low l) (lo hi : Option Int) : Low (cutA l lo hi) := fun c hc => h c (List.mem_of_mem_drop (List.mem_of_mem_take hc))
theorem Low_append {a b : List Nat} (ha : Low a) (hb : Low b) : Low (a ++ b) := fun c hc => (List.mem_append.mp hc).elim (ha c) (hb c)
theorem cut_length {α : Type} (l : List α) (lo hi : Option Int) : (cutA l lo hi).length = sx l.length l.length hi - sx l.length 0 lo := by
  have h1 := sx_le l.length l.length (Nat.le_refl _) hi
  unfold cutA
  rw [List.length_take, List.length_drop]
  omega
def LETL : List Nat := [97, 98, 99, 100, 101, 102, 103, 104, 105, 106, 107, 108, 109, 110, 111, 112, 113, 114, 115, 116, 117, 118, 119, 120, 121, 122]
theorem low_LETL : Low LETL := by unfold Low; decide
theorem t_let : Str.ofString "abcdefghijklmnopqrstuvwxyz" = S LETL := let_eq
theorem t_empty : Str.ofString "" = S [] := by decide +kernel
theorem joined_one (ws : List Nat) : Txt.join (S []) (ws.map fun c => S [c]) = S ws := by
  have e : (ws.map fun c => S [c]) = (ws.map fun c => [c]).map S := by rw [List.map_map]; rfl
  rw [e, join_S, joinL_nil]
  congr 1
  clear e
  induction ws with
  | nil => rfl
  | cons c ws ih => simp only [List.map_cons, List.flatten_cons]; rw [ih]; rfl
theorem sum_one (ws : List Nat) : ((ws.map fun c => S [c]).map (·.length)).sum = ws.length := by
  induction ws with
  | nil => rfl
  | cons c ws ih => simp only [List.map_cons, List.sum_cons, List.length_cons, S_length, List.length_nil]; rw [List.map_map] at ih ⊢; omega
theorem map_one (ws : List Nat) : (ws.map fun c => V.str (S [c])) = (ws.map fun c => S [c]).map V.str := by rw [List.map_map]; rfl
theorem FeedAt.same {H H' : Hp} {p : Addr} {n : Nat} (h : FeedAt H p n) (k : ∀ b o, H b = Option.some o → H' b = Option.some o) : FeedAt H' p n := by
  obtain ⟨a, b, c, h1, r⟩ := h
  exact ⟨a, b, c, k _ _ h1, r⟩
/-! ### patterns, as data -/
theorem i_slC {K : PySem.W.Frag} {H : Hp} {Q : VK} {l : List Nat} {lo hi : Option Int} (hz : l.length ≤ 1000000) (h : Q (.str (S (cutA l lo hi))) H) : fSl K (.str (S l)) lo hi H Q := i_slS (szn (by rw [S_length]; exact hz)) (by rw [slice_S]; exact h)
theorem i_lenC {K : PySem.W.Frag} {H : Hp} {Q : VK} {l : List Nat} (hz : l.length ≤ 1000000) (h : Q (.int (l.length : Int)) H) : fLen K [.str (S l)] H Q := i_lenS (szn (by rw [S_length]; exact hz)) (by rw [S_length]; exact h)
theorem cutA_map {α β : Type} (g : α → β) (l : List α) (lo hi : Option Int) : cutA (l.map g) lo hi = (cutA l lo hi).map g := by
  unfold cutA
  rw [List.length_map, List.map_take, List.map_drop]
def patD (x : List Nat × List Int) : Dt := .tup [.str (S x.1), .tup (x.2.map Dt.int)]
def patsD (xs : List (List Nat × List Int)) : Dt := .lst (xs.map patD)
/-- a pattern as they are made here -/
structure GP (x : List Nat × List Int) : Prop where
  ne : 1 ≤ x.1.length
  le : x.1.length ≤ 22
  len : x.2.length = x.1.length + 1
  num : ∀ v ∈ x.2, 0 ≤ v ∧ v ≤ 9
  cs : ∀ c ∈ x.1, c < 128
theorem IsL_intsD {H : Hp} : ∀ {g : List Int} {xs : List V}, L2.IsL H xs (g.map Dt.int) → xs = g.map V.int
  | [], [], _ => rfl
  | [], _ :: _, h => by simp only [List.map_nil, L2.IsL] at h
  | _ :: _, [], h => by simp only [List.map_cons, L2.IsL] at h
  | k :: g, x :: xs, h => by
    simp only [List.map_cons, L2.IsL, Is] at h
    rw [h.1, IsL_intsD h.2]; rfl
theorem isPat {H : Hp} {v : V} {x : List Nat × List Int} (h : Is H v (patD x)) : ∃ a t, v = .ref a ∧ H a = some (.tup [.str (S x.1), .ref t]) ∧ H t = some (.tup (x.2.map V.int)) := by
  simp only [Is, patD] at h
  obtain ⟨a, xs, rfl, ha, hxs⟩ := h
  match xs, hxs with
  | [], h => simp only [L2.IsL] at h
  | [_], h => simp only [L2.IsL] at h; exact h.2.elim
  | _ :: _ :: _ :: _, h => simp only [L2.IsL] at h; exact h.2.2.elim
  | [y, z], h =>
    simp only [L2.IsL, Is] at h
    obtain ⟨rfl, ⟨t, ys, rfl, ht, hys⟩, _⟩ := h
    have := IsL_intsD hys
    subst this
    exact ⟨a, t, rfl, ha, ht⟩
theorem isPat_mk {H : Hp} {a t : Addr} {x : List Nat × List Int} (h1 : H a = some (.tup [.str (S x.1), .ref t])) (h2 : H t = some (.tup (x.2.map V.int))) : Is H (.ref a) (patD x) := by
  simp only [Is, patD, L2.IsL]
  exact ⟨a, _, rfl, h1, rfl, ⟨t, _, rfl, h2, IsL.ints _ _⟩, trivial⟩
theorem IsL.append {H : Hp} : ∀ {ds es : List Dt} {xs ys : List V}, L2.IsL H xs ds → L2.IsL H ys es → L2.IsL H (xs ++ ys) (ds ++ es)
  | [], _, [], _, _, h => h
  | d :: ds, es, x :: xs, ys, h, k => by
    simp only [L2.IsL] at h
    simp only [List.cons_append, L2.IsL]
    exact ⟨h.1, IsL.append h.2 k⟩
  | [], _, _ :: _, _, h, _ => by simp only [L2.IsL] at h
  | _ :: _, _, [], _, h, _ => by simp only [L2.IsL] at h
end L2

set_option Elab.async false
set_option linter.all false
set_option maxRecDepth 100000
namespace L2
open PySem PySem.Spec PyProof.Rows
/-! ### list.extend by a list -/
/-! ### data of tuples alone: they stay whatever is stored -/


/-! ### fits: (begin, numbers) -/
end L2

set_option Elab.async false
set_option linter.all false
set_option maxRecDepth 100000
namespace L2
open PySem PySem.Spec PyProof.Rows

/-! ### lists of pairs as tables -/
section
variable {κ : Type} [DecidableEq κ]
def valV (kvs : List (κ × V)) (k : κ) : Option V := (kvs.find? fun kv => decide (kv.1 = k)).map (·.2)
/-- in its place, or at the end -/
def putK (kvs : List (κ × V)) (k : κ) (v : V) : List (κ × V) :=
  if (kvs.any fun kv => decide (kv.1 = k)) = true then kvs.map (fun kv => if kv.1 = k then (kv.1, v) else kv) else kvs ++ [(k, v)]

theorem valV_pos {p : κ × V} {r : List (κ × V)} {k : κ} (e : p.1 = k) : valV (p :: r) k = some p.2 := by simp [valV, List.find?_cons, e]
theorem valV_neg {p : κ × V} {r : List (κ × V)} {k : κ} (e : ¬ p.1 = k) : valV (p :: r) k = valV r k := by simp [valV, List.find?_cons, e]
theorem valV_any (k : κ) : ∀ kvs : List (κ × V), (kvs.any fun kv => decide (kv.1 = k)) = (valV kvs k).isSome
  | [] => rfl
  | p :: r => by
    rw [List.any_cons]
    by_cases e : p.1 = k
    · simp only [valV_pos e, decide_eq_true e, Bool.true_or, Option.isSome_some]
    · rw [valV_neg e, decide_eq_false e, Bool.false_or]; exact valV_any k r
theorem length_putK (kvs : List (κ × V)) (k : κ) (v : V) : (putK kvs k v).length ≤ kvs.length + 1 := by
  unfold putK
  split
  · rw [List.length_map]; omega
  · rw [List.length_append, List.length_cons, List.length_nil]; omega

theorem RelO.isSome_eq {o : Option V} {u : Option Value} (r : RelO o u) : o.isSome = u.isSome := by
  cases o with
  | none => cases u with
    | none => rfl
    | some _ => exact (show False from r).elim
  | some _ => cases u with
    | none => exact (show False from r).elim
    | some _ => rfl

/-- raw tables of the same keys -/
theorem KV.val {kvs : List (κ × V)} {vs : List (κ × Value)} (r : KV kvs vs) (k : κ) : RelO (valV kvs k) (valueAt vs k) := by
  unfold KV at r
  induction r with
  | nil => exact True.intro
  | @cons p q ps qs h t ih =>
    obtain ⟨h1, h2⟩ := h
    by_cases e : p.1 = k
    · have e' : q.1 = k := h1.symm.trans e
      have b : valueAt (q :: qs) k = some q.2 := by simp [valueAt, List.find?_cons, e']
      rw [valV_pos e, b]; exact h2
    · have e' : ¬ q.1 = k := fun z => e (h1.trans z)
      have b : valueAt (q :: qs) k = valueAt qs k := by simp [valueAt, List.find?_cons, e']
      rw [valV_neg e, b]; exact ih
theorem KV.any {kvs : List (κ × V)} {vs : List (κ × Value)} (r : KV kvs vs) (k : κ) : (kvs.any fun kv => decide (kv.1 = k)) = vs.any fun kv => decide (kv.1 = k) := by
  unfold KV at r
  induction r with
  | nil => rfl
  | cons h t ih => rw [List.any_cons, List.any_cons, ih, h.1]
theorem KV.repl {kvs : List (κ × V)} {vs : List (κ × Value)} (r : KV kvs vs) (k : κ) {y : V} {u : Value} (ry : RelV y u) :
    KV (kvs.map fun kv => if kv.1 = k then (kv.1, y) else kv) (vs.map fun kv => if kv.1 = k then (kv.1, u) else kv) := by
  unfold KV at r ⊢
  induction r with
  | nil => exact .nil
  | @cons p q ps qs h t ih =>
    rw [List.map_cons, List.map_cons]
    refine .cons ?_ ih
    obtain ⟨h1, h2⟩ := h
    by_cases e : p.1 = k
    · rw [if_pos e, if_pos (h1.symm.trans e)]; exact ⟨h1, ry⟩
    · rw [if_neg e, if_neg (fun z => e (h1.trans z))]; exact ⟨h1, h2⟩
theorem KV.put {kvs : List (κ × V)} {vs : List (κ × Value)} (r : KV kvs vs) (k : κ) {y : V} {u : Value} (ry : RelV y u) : KV (putK kvs k y) (stored vs k u) := by
  unfold putK stored
  rw [r.any k]
  by_cases e : (vs.any fun kv => decide (kv.1 = k)) = true
  · rw [if_pos e, if_pos e]; exact r.repl k ry
  · rw [if_neg e, if_neg e]; exact Paired.snoc r ⟨rfl, ry⟩
theorem KV.length {kvs : List (κ × V)} {vs : List (κ × Value)} (r : KV kvs vs) : kvs.length = vs.length := Paired.length r
end


/-! ### a tracked dict, its keys ints and texts or tuples of these -/
theorem kV_is {P : Program} {w : World} {k : Key} {u : Value} (r : RelV (kV k) u) : (mixKind P w).is k u = true := by
  cases k with
  | inl i => obtain ⟨t, e⟩ := (show ∃ t, u = Value.int i t from r); subst e; exact mixKind_int P w i t
  | inr x => obtain ⟨t, e⟩ := (show ∃ t, u = Value.str x t from r); subst e; exact mixKind_str P w x t
theorem items_are {P : Program} {w : World} : ∀ {ks : List Key} {us : List Value}, Vals (ks.map kV) us → ItemsAre (mixKind P w) ks us
  | [], _, r => by rw [List.map_nil] at r; cases r; exact .nil
  | k :: ks, _, r => by
    rw [List.map_cons] at r
    cases r with
    | cons h t => exact .cons (kV_is h) (items_are t)

/-- raw entries of a dict with tuple keys -/
abbrev KT (H : Hp) : List (List Key × V) → List (List Key × Addr × Value) → Prop := Paired fun p q => p.1 = q.1 ∧ H q.2.1 = some (.tup (p.1.map kV)) ∧ RelV p.2 q.2.2
theorem KT.val {H : Hp} {kvs : List (List Key × V)} {xs : List (List Key × Addr × Value)} (r : KT H kvs xs) (k : List Key) : RelO (valV kvs k) ((atKey xs k).map (·.2)) := by
  induction r with
  | nil => exact True.intro
  | @cons p q ps qs h t ih =>
    obtain ⟨h1, _, h2⟩ := h
    by_cases e : p.1 = k
    · have e' : q.1 = k := h1.symm.trans e
      have b : atKey (q :: qs) k = some q.2 := by simp [atKey, List.find?_cons, e']
      rw [valV_pos e, b]; exact h2
    · have e' : ¬ q.1 = k := fun z => e (h1.trans z)
      have b : atKey (q :: qs) k = atKey qs k := by simp [atKey, List.find?_cons, e']
      rw [valV_neg e, b]; exact ih
theorem KT.repl {H : Hp} {kvs : List (List Key × V)} {xs : List (List Key × Addr × Value)} (r : KT H kvs xs) (k : List Key) {y : V} {u : Value} (ry : RelV y u) :
    KT H (kvs.map fun kv => if kv.1 = k then (kv.1, y) else kv) (xs.map (putAt k u)) := by
  induction r with
  | nil => exact .nil
  | @cons p q ps qs h t ih =>
    rw [List.map_cons, List.map_cons]
    refine .cons ?_ ih
    obtain ⟨h1, h2, h3⟩ := h
    unfold putAt
    by_cases e : p.1 = k
    · rw [if_pos e, if_pos (h1.symm.trans e)]; exact ⟨h1, h2, ry⟩
    · rw [if_neg e, if_neg (fun z => e (h1.trans z))]; exact ⟨h1, h2, h3⟩
theorem KT.put {H : Hp} {kvs : List (List Key × V)} {xs : List (List Key × Addr × Value)} (r : KT H kvs xs) (k : List Key) {b : Addr} {y : V} {u : Value} (hb : H b = some (.tup (k.map kV))) (ry : RelV y u) :
    KT H (putK kvs k y) (storedH xs k b u) := by
  have e : (kvs.any fun kv => decide (kv.1 = k)) = (atKey xs k).isSome := by
    rw [valV_any, (r.val k).isSome_eq, Option.isSome_map]
  unfold putK storedH
  rw [e]
  by_cases q : (atKey xs k).isSome = true
  · rw [if_pos q, if_pos q]; exact r.repl k ry
  · rw [if_neg q, if_neg q]; exact Paired.snoc r ⟨rfl, hb, ry⟩
theorem KT.keeps {H H' : Hp} {kvs : List (List Key × V)} {xs : List (List Key × Addr × Value)} (r : KT H kvs xs) (ht : ∀ b ys, H b = some (.tup ys) → H' b = some (.tup ys)) : KT H' kvs xs :=
  Paired.mapP r fun _ _ z => ⟨z.1, ht _ _ z.2.1, z.2.2⟩

section
variable {P : Program} {w : World} {H : Hp} {h : Heap} {a : Addr}
theorem rd_of {u : HO} (ok : HOk P w H h) (e : Rd H a u) : ObjOk P w H h a u := e.ok ok
theorem dk_rd {kvs : List (Key × V)} (ok : HOk P w H h) (e : Rd H a (.dK kvs)) : kvs.length ≤ sizeLine ∧ (a == sysModules) = false ∧ ∃ vs, KV kvs vs ∧ h.DictOf (mixKind P w) a vs :=
  show ObjOk P w H h a (.dK kvs) from rd_of ok e
theorem dk_of {kvs : List (Key × V)} (ok : HOk P w H h) (e : H a = some (.dK kvs)) : kvs.length ≤ sizeLine ∧ (a == sysModules) = false ∧ ∃ vs, KV kvs vs ∧ h.DictOf (mixKind P w) a vs := dk_rd ok (.inl e)
/-- a tracked tuple of ints and texts is a key -/
theorem key_of {ks : List Key} (ok : HOk P w H h) (e : H a = some (.tup (ks.map kV))) : (tupleKind (mixKind P w)).is h ks a := by
  obtain ⟨_, its, r, o, h1, h2, n, h3⟩ := (show ObjOk P w H h a (.tup (ks.map kV)) from ok a _ e)
  exact ⟨o, its.toArray, n, h1, h2, h3, by simpa using items_are r⟩
theorem dt_rd {kvs : List (List Key × V)} (ok : HOk P w H h) (e : Rd H a (.dT kvs)) : kvs.length ≤ sizeLine ∧ (a == sysModules) = false ∧
    ∃ xs, KT H kvs xs ∧ h.DictOfH (tupleKind (mixKind P w)) a xs := by
  obtain ⟨z, y, xs, r, o, es, ep, h1, h2, h3, h4, h5⟩ := (show ObjOk P w H h a (.dT kvs) from rd_of ok e)
  refine ⟨z, y, xs, r, o, es, ep, h1, h2, h3, h4, fun x hx => ?_, h5⟩
  have all : ∀ {l : List (List Key × V)} {m : List (List Key × Addr × Value)}, KT H l m → ∀ x ∈ m, (tupleKind (mixKind P w)).is h x.1 x.2.1 := by
    intro l m q
    induction q with
    | nil => intro x hx; exact nomatch hx
    | @cons p q ps qs hq t ih =>
      intro x hx
      rcases List.mem_cons.mp hx with e | hx
      · subst e
        exact key_of ok (by rw [← hq.1]; exact hq.2.1)
      · exact ih x hx
  exact all r x hx
theorem dt_of {kvs : List (List Key × V)} (ok : HOk P w H h) (e : H a = some (.dT kvs)) : kvs.length ≤ sizeLine ∧ (a == sysModules) = false ∧
    ∃ xs, KT H kvs xs ∧ h.DictOfH (tupleKind (mixKind P w)) a xs := dt_rd ok (.inl e)
end

/-- what the dict at a holds at the key y -/
def DGet (H : Hp) (a : Addr) (y : V) (r : Option V) : Prop :=
  (∃ kvs k, Rd H a (.dK kvs) ∧ y = kV k ∧ r = valV kvs k) ∨ ∃ kvs k b, Rd H a (.dT kvs) ∧ y = .ref b ∧ H b = some (.tup (k.map kV)) ∧ r = valV kvs k
/-- the heap behind a[y] = v -/
def DPut (H : Hp) (a : Addr) (y v : V) (H' : Hp) : Prop :=
  (∃ kvs k, H a = some (.dK kvs) ∧ y = kV k ∧ kvs.length < sizeLine ∧ H' = upd H a (.dK (putK kvs k v))) ∨
  ∃ kvs k b, H a = some (.dT kvs) ∧ y = .ref b ∧ H b = some (.tup (k.map kV)) ∧ kvs.length < sizeLine ∧ H' = upd H a (.dT (putK kvs k v))
theorem DGet.k {H : Hp} {a : Addr} {kvs : List (Key × V)} {k : Key} (e : H a = some (.dK kvs)) : DGet H a (kV k) (valV kvs k) := .inl ⟨kvs, k, .inl e, rfl, rfl⟩
theorem DPut.k {H : Hp} {a : Addr} {kvs : List (Key × V)} {k : Key} {v : V} (e : H a = some (.dK kvs)) (hl : kvs.length < sizeLine) : DPut H a (kV k) v (upd H a (.dK (putK kvs k v))) := .inl ⟨kvs, k, e, rfl, hl, rfl⟩


section
variable {X : Cx} {pins : List (Addr × Obj)} {σ : St} {H : Hp} {s : Shared} {a : Addr} {y v : V} {u r : Value} {o : Option V} {A : Around} {E : Value → Shared → Prop}

theorem Inv.big (I : Inv X pins σ H s) : sysModules < s.heap.objs.size := by
  have h : mainGlobals < s.heap.objs.size := (I.mod.glob.keeps I.bk).lt
  exact Nat.lt_trans (by decide) h

/-- y in d -/
theorem d_in {Q : Value → Shared → Prop} (hu : A.units + 1 < cLine) (I : Inv X pins σ H s) (g : DGet H a y o) (ry : RelV y u) (h : ∀ s', Inv X pins σ H s' → Q (.bool o.isSome) s') :
    wpAny (model X.prog X.w) A (compareOp .In u (.ref a)) Q E s := by
  rcases g with ⟨kvs, k, e, ey, l⟩ | ⟨kvs, k, b, e, ey, eb, l⟩
  · subst ey
    obtain ⟨z, hd, vs, rel, dd⟩ := dk_rd I.hok e
    refine wpAny_in_of (kV_is ry) hd dd.mapOf ?_
    rw [← (rel.val k).isSome_eq, ← l]
    exact h _ (I.tok _)
  · subst ey
    cases (show u = Value.ref b from ry)
    obtain ⟨z, hd, xs, rel, dd⟩ := dt_rd I.hok e
    refine wpAny_in_heap (tupleKind_room_in1 hu) (key_of I.hok eb) hd dd ?_
    have q := (rel.val k).isSome_eq
    rw [Option.isSome_map] at q
    rw [← q, ← l]
    exact h _ (I.tok _)
/-- a dict's object is replaced -/
theorem d_write {h' : Heap} {t' : Nat} {ob : HO} (I : Inv X pins σ H s) (mu : Mut (H a)) (hs : Heap.SameBut a s.heap h') (he : ∃ q, h'.get? a = some q) (new : ObjOk X.prog X.w (upd H a ob) h' a ob) :
    Inv X pins σ (upd H a ob) { s with heap := h', toks := t' } :=
  I.write (x := a) (e := a) mu (.inl rfl) (fun b q hb z => (hs.2 b hb).trans z) he new
theorem dk_new {P : Program} {w : World} {H' : Hp} {h' : Heap} {kvs : List (Key × V)} {vs : List (Key × Value)} (z : kvs.length ≤ sizeLine) (hd : (a == sysModules) = false) (rel : KV kvs vs) (dd : h'.DictOf (mixKind P w) a vs) :
    ObjOk P w H' h' a (.dK kvs) := ⟨z, hd, vs, rel, dd⟩
/-- d[y] = v -/
theorem d_setItem {H' : Hp} {Q : Unit → Shared → Prop} (hu : A.units + 1 < cLine) (I : Inv X pins σ H s) (g : DPut H a y v H') (ry : RelV y u) (rv : RelV v r) (h : ∀ s', Inv X pins σ H' s' → Q () s') :
    wpAny (model X.prog X.w) A (setItem (.ref a) u r) Q E s := by
  rcases g with ⟨kvs, k, e, ey, l, eH⟩ | ⟨kvs, k, b, e, ey, eb, l, eH⟩
  · subst ey eH
    obtain ⟨z, hd, vs, rel, dd⟩ := dk_of I.hok e
    have hz : vs.length ≤ sizeLine := by rw [← rel.length]; exact z
    have hl : (putK kvs k v).length ≤ sizeLine := by have := length_putK kvs k v; omega
    refine wpAny_setItem_pairs (hsz := hz) (kV_is ry) dd fun h' dd' hs => h _ ?_
    have he : ∃ q, h'.get? a = some q := let ⟨q, _, _, hq, _⟩ := dd'; ⟨q, hq⟩
    exact d_write I (by rw [e]; exact True.intro) hs he (dk_new hl hd (rel.put k rv) dd')
  · subst ey eH
    cases (show u = Value.ref b from ry)
    obtain ⟨z, hd, xs, rel, dd⟩ := dt_of I.hok e
    have hz : xs.length ≤ sizeLine := by rw [← Paired.length rel]; exact z
    have hl : (putK kvs k v).length ≤ sizeLine := by have := length_putK kvs k v; omega
    refine wpAny_setItem_heap (hsz := hz) (tupleKind_room_in1 hu) (key_of I.hok eb) dd fun h' dd' hs => h _ ?_
    obtain ⟨q, es, ep, hq, h2, h3, h4, _, h5⟩ := dd'
    refine d_write I (by rw [e]; exact True.intro) hs ⟨q, hq⟩ ⟨hl, hd, _, (rel.put k eb rv).keeps fun c ys ec => ?_, q, es, ep, hq, h2, h3, h4, h5⟩
    rw [upd_ne (ne_of ec e (fun z => nomatch z))]
    exact ec
end

section
variable {X : Cx} {pins : List (Addr × Obj)} {σ : St} {H : Hp} {s : Shared} {a : Addr} {kvs : List (Key × V)} {k : Key} {u : Value} {A : Around} {E : Value → Shared → Prop}
end


/-! ### readings and rules -/


/-- y in d, y not in d -/
def tDIn (ty td : TE) : TE := fun σ H Q => ty σ H fun y H1 => td σ H1 fun x H2 => ∃ a o, x = .ref a ∧ DGet H2 a y o ∧ Q (.bl o.isSome) H2
/-- d[y] = v -/
def sDPut (td ty tv : TE) : TS := fun D σ H => tv σ H fun v H1 => td σ H1 fun x H2 => ty σ H2 fun y H3 => ∃ a H4, x = .ref a ∧ DPut H3 a y v H4 ∧ D.nx σ H4

section
variable {X : Cx} {o i e value : Expr} {pos pos' tpos : Pos} {td ty tv : TE}
theorem pc_din (hu : X.A.units + 1 < cLine) (hi : PE X i ty) (ho : PE X o td) : PC X .In i o (tDIn ty td) := by
  intro pins s σ H Q I h
  refine thn (hi pins s σ H _ I h) fun iv s1 ⟨y, H1, I1, ry, q1⟩ => thn (ho pins s1 σ H1 _ I1 q1) fun u s2 ⟨x, H2, I2, rx, a, ov, ex, g, q2⟩ => ?_
  subst ex
  obtain rfl : u = Value.ref a := rx
  exact d_in hu I2 g ry fun s3 I3 => ⟨.bl ov.isSome, H2, I3, rfl, q2⟩
theorem ps_dput (hu : X.A.units + 1 < cLine) (ho : PE X o td) (hi : PE X i ty) (hv : PE X value tv) (hs : swapsWith value (some (.Subscript o i pos')) pos.line X.env = pure false) :
    PS X (.Assign [.Subscript o i pos'] value pos) (sDPut td ty tv) := by
  intro pins s σ H D I h
  refine wpAny_Assign_Subscript (thn (hv pins s σ H _ I h) fun r s1 ⟨v, H1, I1, rv, q1⟩ => thn (ho pins s1 σ H1 _ I1 q1) fun u s2 ⟨x, H2, I2, rx, q2⟩ => thn (hi pins s2 σ H2 _ I2 q2) fun iv s3 ⟨y, H3, I3, ry, a, H4, ex, g, q3⟩ => ?_) hs
  subst ex
  obtain rfl : u = Value.ref a := rx
  exact d_setItem hu I3 g ry rv fun s4 I4 => ⟨σ, H4, I4, q3⟩
end


/-! ### displays -/
theorem dk_empty {P : Program} {w : World} {H : Hp} (h : Heap) (hb : sysModules < h.objs.size) : ObjOk P w H (h.push { cls := .type "dict", data := .dict #[] }) h.objs.size (.dK []) :=
  ⟨Nat.zero_le _, beq_eq_false_iff_ne.mpr (Ne.symm (Nat.ne_of_lt hb)), [], .nil, Heap.DictOf.new h⟩
/-- {}, to be a dict of the kind that is wanted -/
def tDNewK : TE := fun _ H Q => ∀ p, H p = none → Q (.ref p) (upd H p (.dK []))
section
variable {X : Cx} {pos : Pos}
theorem pe_dnewK : PE X (.Dict [] [] pos) tDNewK := fun pins s σ H Q I h =>
  wpAny_Dict_empty ⟨.ref s.heap.objs.size, _, I.laid (a := s.heap.objs.size) (o := .dK []) (t' := s.toks) (fun _ _ q => Heap.get?_push_of_some _ q) (Nat.le_refl _) (dk_empty s.heap I.big), rfl, h _ (I.hok.fresh (Nat.le_refl _))⟩
end




/-! ### methods -/
/-- a method call o.m(e) of a built-in, with one argument: what must be seen of the text -/
structure M1 (X : Cx) (o : Expr) (m : Str) (apos : Pos) (e : Expr) (cpos : Pos) : Prop where
  base : attributeBase o m X.env (eval o X.env) = eval o X.env
  few : ((backTo cpos (starEach [e] X.env)).all (fun x => !x.1) && (backToKw cpos (keywordEach [] X.env)).all (fun x => x.1.isSome)
    && decide (([e] : List Expr).length + ([] : List Keyword).length + (if ([] : List Keyword).isEmpty then 0 else 1) < 30)) = true
  line : (apos.endLine == cpos.line) = true
  trees : backTo cpos (starEach [e] X.env) = [(false, eval e X.env)]
structure M2 (X : Cx) (o : Expr) (m : Str) (apos : Pos) (e f : Expr) (cpos : Pos) : Prop where
  base : attributeBase o m X.env (eval o X.env) = eval o X.env
  few : ((backTo cpos (starEach [e, f] X.env)).all (fun x => !x.1) && (backToKw cpos (keywordEach [] X.env)).all (fun x => x.1.isSome)
    && decide (([e, f] : List Expr).length + ([] : List Keyword).length + (if ([] : List Keyword).isEmpty then 0 else 1) < 30)) = true
  line : (apos.endLine == cpos.line) = true
  trees : backTo cpos (starEach [e, f] X.env) = [(false, eval e X.env), (false, eval f X.env)]


section
variable {X : Cx} {pins : List (Addr × Obj)} {σ : St} {H : Hp} {s : Shared} {a : Addr} {y d : V} {u r : Value} {o : Option V} {A : Around} {E : Value → Shared → Prop}
end

section
variable {X : Cx} {o e f : Expr} {apos cpos : Pos} {td ty tx : TE}
end

/-! ### dict(d): a copy -/
section
variable {X : Cx} {pins : List (Addr × Obj)} {σ : St} {H : Hp} {s : Shared} {a : Addr} {kvs : List (Key × V)} {A : Around} {E : Value → Shared → Prop}
end


section
variable {X : Cx} {pins : List (Addr × Obj)} {σ : St} {H : Hp} {s : Shared} {a : Addr} {y : V} {u : Value} {A : Around} {E : Value → Shared → Prop}
end
end L2

set_option Elab.async false
set_option linter.all false
namespace L2
/-! what patterns begin with: a table of names -/
theorem kS_inj {a b : List Nat} (h : (Sum.inr (S a) : Key) = Sum.inr (S b)) : a = b := by
  injection h with h
  exact S_inj h
end L2

set_option Elab.async false
set_option linter.all false
namespace L2
/-- a table of numbers by signs -/
def NT (H : Hp) : List (Key × V) → List Pat → Prop
  | [], [] => True
  | kv :: kvs, g :: gs => kv.1 = Sum.inr (S g.1) ∧ (∃ t, kv.2 = .ref t ∧ H t = some (.tup (g.2.map V.int))) ∧ NT H kvs gs
  | _, _ => False
def lookP (gs : List Pat) (z : List Nat) : Option Pat := gs.find? fun g => decide (g.1 = z)
theorem NT.val {H : Hp} {z : List Nat} : ∀ {kvs : List (Key × V)} {gs : List Pat}, NT H kvs gs → (lookP gs z = none ∧ valV kvs (Sum.inr (S z)) = none) ∨ ∃ g t, lookP gs z = some g ∧ g ∈ gs ∧ g.1 = z ∧ valV kvs (Sum.inr (S z)) = some (.ref t) ∧ H t = some (.tup (g.2.map V.int))
  | [], [], _ => .inl ⟨rfl, rfl⟩
  | [], _ :: _, h => h.elim
  | _ :: _, [], h => h.elim
  | kv :: kvs, g :: gs, h => by
    obtain ⟨h1, ⟨t, h2, h3⟩, h4⟩ := h
    by_cases e : g.1 = z
    · refine .inr ⟨g, t, ?_, List.mem_cons_self, e, ?_, h3⟩
      · unfold lookP; rw [List.find?_cons, decide_eq_true e]
      · rw [valV_pos (by rw [h1, e]), h2]
    · have hl : lookP (g :: gs) z = lookP gs z := by unfold lookP; rw [List.find?_cons, decide_eq_false e]
      have hv : valV (kv :: kvs) (Sum.inr (S z)) = valV kvs (Sum.inr (S z)) := valV_neg fun q => e (kS_inj (h1.symm.trans q))
      rw [hl, hv]
      rcases NT.val (z := z) h4 with q | ⟨g', t', a, b, c, d, f⟩
      · exact .inl q
      · exact .inr ⟨g', t', a, List.mem_cons_of_mem _ b, c, d, f⟩
end L2

set_option Elab.async false
set_option linter.all false
namespace L2
open PySem
/-! the greatest numbers by signs -/
theorem NT.anyK {H : Hp} {s : List Nat} : ∀ {kvs : List (Key × V)} {gs : List Pat}, NT H kvs gs → (kvs.any fun kv => decide (kv.1 = (Sum.inr (S s) : Key))) = gs.any fun g => decide (g.1 = s)
  | [], [], _ => rfl
  | [], _ :: _, h => h.elim
  | _ :: _, [], h => h.elim
  | kv :: kvs, g :: gs, h => by
    obtain ⟨h1, _, h4⟩ := h
    rw [List.any_cons, List.any_cons, NT.anyK h4]
    congr 1
    rw [h1]
    by_cases e : g.1 = s
    · rw [decide_eq_true e, decide_eq_true (by rw [e])]
    · rw [decide_eq_false e, decide_eq_false fun q => e (kS_inj q)]
theorem NT.append {H : Hp} : ∀ {kvs kvs' : List (Key × V)} {gs gs' : List Pat}, NT H kvs gs → NT H kvs' gs' → NT H (kvs ++ kvs') (gs ++ gs')
  | [], _, [], _, _, h => h
  | [], _, _ :: _, _, h, _ => h.elim
  | _ :: _, _, [], _, h, _ => h.elim
  | kv :: kvs, _, g :: gs, _, h, h' => ⟨h.1, h.2.1, NT.append h.2.2 h'⟩
theorem NT.tups {H H' : Hp} (hk : ∀ b zs, H b = some (.tup zs) → H' b = some (.tup zs)) : ∀ {kvs : List (Key × V)} {gs : List Pat}, NT H kvs gs → NT H' kvs gs
  | [], [], _ => trivial
  | [], _ :: _, h => h.elim
  | _ :: _, [], h => h.elim
  | kv :: kvs, g :: gs, h => by
    obtain ⟨h1, ⟨t, h2, h3⟩, h4⟩ := h
    exact ⟨h1, ⟨t, h2, hk _ _ h3⟩, NT.tups hk h4⟩
end L2

set_option Elab.async false
set_option linter.all false
set_option maxRecDepth 100000
namespace L2
open PySem
open Sem (wp)
/-! zip of two iterators whose items are known -/
structure ZA (z TI TO i1 i2 : Addr) (f1 f2 : List Addr) : Prop where
  TIz : TI ≠ z
  TOz : TO ≠ z
  i1z : i1 ≠ z
  i2z : i2 ≠ z
  TITO : TI ≠ TO
  TIi1 : TI ≠ i1
  TIi2 : TI ≠ i2
  TOi1 : TO ≠ i1
  TOi2 : TO ≠ i2
  i12 : i1 ≠ i2
  zf1 : z ∉ f1
  zf2 : z ∉ f2
  of1 : TO ∉ f1
  of2 : TO ∉ f2
  i1f2 : i1 ∉ f2
  i2f1 : i2 ∉ f1
section
variable {prog : Program} {w : World} {A : Around} {E : Value → Shared → Prop} {s : Shared}
end
/-! zip(text, tuple) -/
set_option maxHeartbeats 4000000 in
section
variable {prog : Program} {w : World} {A : Around} {E : Value → Shared → Prop} {s : Shared}
end
end L2

set_option Elab.async false
set_option linter.all false
set_option maxRecDepth 100000
namespace L2
open PySem PySem.Spec PyProof.Rows
section
variable {X : Cx}
end
end L2

set_option Elab.async false
set_option linter.all false
set_option maxRecDepth 100000
namespace L2
open PySem PySem.Spec PyProof.Rows
/-! ### max, min of a tuple of ints -/
section
variable {X : Cx}
end
end L2
namespace L2
open PySem
end L2

set_option Elab.async false
set_option linter.all false
set_option maxRecDepth 100000
namespace L2
open PySem PySem.Spec PyProof.Rows
/-! ### list.insert, at a place within -/
def fInsert : V → List V → Hp → VK → Prop := fun x vs H Q => match x, vs with
  | .ref l, [.int i, y] => (match H l with | some (.lst xs) => 0 ≤ i ∧ i ≤ xs.length ∧ xs.length < 1000000 ∧ Q .non (upd H l (.lst (xs.take i.toNat ++ y :: xs.drop i.toNat))) | _ => False)
  | _, _ => False
section
variable {X : Cx}
theorem Vals.take' {xs : List V} {us : List Value} (h : Vals xs us) : ∀ n, Vals (xs.take n) (us.take n) := by
  induction h with
  | nil => intro n; simp; exact .nil
  | cons r rs ih =>
    intro n
    cases n with
    | zero => simp; exact .nil
    | succ n => simp only [List.take_succ_cons]; exact .cons r (ih n)
theorem Vals.drop' {xs : List V} {us : List Value} (h : Vals xs us) : ∀ n, Vals (xs.drop n) (us.drop n) := by
  induction h with
  | nil => intro n; simp; exact .nil
  | cons r rs ih =>
    intro n
    cases n with
    | zero => simp only [List.drop_zero]; exact .cons r rs
    | succ n => simp only [List.drop_succ_cons]; exact ih n
theorem m_insert2 : MtR X "list.insert" fInsert := fun pins s σ H x vs v us Q I rx rs h => by
  unfold fInsert at h
  split at h
  · rename_i l i y
    split at h
    · rename_i xs hH
      obtain ⟨h0, h1, hz, q⟩ := h
      cases rx
      cases rs with
      | cons r1 rs =>
        cases rs with
        | cons r2 rs =>
          cases rs
          obtain ⟨t, rfl⟩ := r1
          rename_i u
          obtain ⟨z, its, n, r, hl, e⟩ := I.lstM hH
          have hlen := r.length
          have hfit : Builtin.List.listFitsIndex i = true := by
            unfold Builtin.List.listFitsIndex
            have e : ((2 : Int) ^ 63) = 9223372036854775808 := by decide
            simp only [e, Bool.and_eq_true, decide_eq_true_eq]
            omega
          have hbig : 1000000 ≤ sizeLine := by decide
          have hsz : its.toArray.size ≤ sizeLine := by
            rw [List.size_toArray]
            omega
          refine call_meets F.slot_list_insert ⟨_, e, rfl⟩ F.entry_list_insert (F.args_list_insert_3 _ _ _) (PySem.AutoSeq1.list_insert_list_int_val_1 l its.toArray n i t u (by simp [hfit]) hsz) ⟨e, ?_⟩
          refine ⟨.non, _, I.lset (its' := its.take i.toNat ++ u :: its.drop i.toNat) hH e ?_ ((Vals.take' r _).append (.cons r2 (Vals.drop' r _))) ?_, rfl, q⟩
          · apply Array.toList_inj.mp
            have hk : (if i < 0 then (i + ((its.toArray.size : Nat) : Int)).toNat else min i.toNat its.toArray.size) = i.toNat := by
              rw [if_neg (by omega), List.size_toArray]
              omega
            show ((its.toArray.extract 0 (if i < 0 then (i + ((its.toArray.size : Nat) : Int)).toNat else min i.toNat its.toArray.size)).push u ++ its.toArray.extract (if i < 0 then (i + ((its.toArray.size : Nat) : Int)).toNat else min i.toNat its.toArray.size)).toList = _
            rw [hk]
            simp
            exact List.take_of_length_le (by rw [List.length_drop]; exact Nat.le_refl _)
          · have : (xs.take i.toNat ++ y :: xs.drop i.toNat).length = xs.length + 1 := by
              rw [List.length_append, List.length_cons, List.length_take, List.length_drop]; omega
            omega
    · exact h.elim
  · exact h.elim
end
end L2

set_option Elab.async false
set_option linter.all false
set_option maxRecDepth 100000
namespace L2
open PySem PySem.Spec PyProof.Rows
/-! ### data that == and != may look at, piece by piece -/
def Lay (n : Nat) (d : Dt) : Prop := PyData.canLay0 (toP d) = true ∧ PyData.depth (toP d) ≤ n
theorem Lay.ok {n : Nat} {d : Dt} (h : Lay n d) (hn : n ≤ 64) : okD d := by
  unfold okD SeqAt.shaped
  rw [h.1, decide_eq_true (Nat.le_trans h.2 hn)]; rfl
theorem lay_all {n : Nat} : ∀ {ds : List Dt}, (∀ d ∈ ds, Lay n d) → PyData.canLayAll0 (toPs ds) = true ∧ PyData.depthAll (toPs ds) ≤ n
  | [], _ => ⟨rfl, Nat.zero_le _⟩
  | d :: ds, h => by
    have h1 := h d List.mem_cons_self
    have h2 := lay_all (ds := ds) fun e he => h e (List.mem_cons_of_mem _ he)
    simp only [toPs, PyData.canLayAll0, PyData.depthAll, h1.1, h2.1, Bool.and_self, true_and]
    have := h1.2
    have := h2.2
    omega
theorem Lay.lst {n : Nat} {ds : List Dt} (h : ∀ d ∈ ds, Lay n d) : Lay (n + 1) (.lst ds) := by
  have := lay_all h
  unfold Lay
  simp only [toP, PyData.canLay0, PyData.depth, this.1, true_and]
  omega
theorem Lay.tup {n : Nat} {ds : List Dt} (h : ∀ d ∈ ds, Lay n d) : Lay (n + 1) (.tup ds) := by
  have := lay_all h
  unfold Lay
  simp only [toP, PyData.canLay0, PyData.depth, this.1, true_and]
  omega
theorem Lay.mono {n m : Nat} {d : Dt} (h : Lay n d) (hm : n ≤ m) : Lay m d := ⟨h.1, Nat.le_trans h.2 hm⟩
theorem Lay.int {i : Int} : Lay 0 (.int i) := ⟨rfl, Nat.le_refl _⟩
theorem Lay.str {l : List Nat} (h : ∀ c ∈ l, c < 128) : Lay 0 (.str (S l)) := by
  refine ⟨?_, Nat.le_refl _⟩
  simp only [toP, PyData.canLay0]
  unfold PyData.strOk
  rw [← Array.all_toList]
  show (l.all fun x => decide (x < 0x110000)) = true
  rw [List.all_eq_true]
  intro c hc
  have := h c hc
  exact decide_eq_true (by omega)
theorem Lay.ints {n : List Int} : ∀ d ∈ n.map Dt.int, Lay 0 d := fun d hd => by
  obtain ⟨x, _, rfl⟩ := List.mem_map.mp hd
  exact Lay.int
theorem Lay.pat {x : List Nat × List Int} (h : ∀ c ∈ x.1, c < 128) : Lay 2 (patD x) := Lay.tup fun d hd => by
  rcases List.mem_cons.mp hd with h1 | h1
  · rw [h1]; exact (Lay.str h).mono (by decide)
  · have : d = .tup (x.2.map Dt.int) := by simpa using h1
    rw [this]; exact Lay.tup Lay.ints
theorem Lay.pats {xs : List (List Nat × List Int)} (h : ∀ x ∈ xs, ∀ c ∈ x.1, c < 128) : Lay 3 (patsD xs) := Lay.lst fun d hd => by
  obtain ⟨x, hx, rfl⟩ := List.mem_map.mp hd
  exact Lay.pat (h x hx)
end L2

set_option Elab.async false
set_option linter.all false
set_option maxRecDepth 100000
namespace L2
open PySem PySem.Spec PyProof.Rows
/-! ### own plain classes: methods and making, known by their promises -/
structure Dm (P : Program) (w : World) (K : PySem.W.Frag) (mg : Str → Option Value) (base : Heap) (C : Addr) (m : Str) (k : Nat) (ps : List Str) (sp : Sp) : Prop where
  ex : ∃ (f : Addr) (fd : FuncData), Meth K C m f ∧ Binds K fd ps [] ∧ FnOk P w K mg base CX0 k f fd ps sp
structure Dk (P : Program) (w : World) (K : PySem.W.Frag) (mg : Str → Option Value) (base : Heap) (C : Addr) (k : Nat) (ps : List Str) (sp : Sp) : Prop where
  ex : ∃ (f : Addr) (fd : FuncData), Mk K C f ∧ Binds K fd ps [] ∧ FnOk P w K mg base CX0 k f fd ps sp
section
variable {X : Cx} {k : Nat} {C : Addr} {ps : List Str} {sp : Sp} {x m : Str} {p pos apos : Pos} {e o : Expr} {es : List Expr} {ta : TE} {t : TA}
end
section
variable {σ : St} {H : Hp} {Q : VK} {D : Ends}
theorem i_make {C : Addr} {sp : Sp} {E : XK} {t : TA} (h : t σ H fun vs H1 => ∀ x dx, H1 x = none → H1 dx = none → dx ≠ x → sp (.ref x :: (vs ++ [])) (upd (upd H1 dx (.own x)) x (.ins C dx [])) (fun v H2 => v = .non ∧ Q (.ref x) H2) E) : tMake C sp [] E t σ H Q := h
theorem i_fldS {K : PySem.W.Frag} {ta tv : TE} {f : Str} (h : tv σ H fun y H1 => ta σ H1 fun x H2 => ∃ a C dx fs, x = .ref a ∧ H2 a = some (.ins C dx fs) ∧ Cls K C ∧ NoAttr K C f ∧ fs.length < 1000 ∧ D.nx σ (upd H2 a (.ins C dx (putF f y fs)))) : sFld K ta tv f D σ H := h
theorem i_fld2 {K : PySem.W.Frag} {a C dx : Addr} {fs : List (Str × V)} {f : Str} {y : V} {R : Hp → Prop} (h1 : H a = some (.ins C dx fs)) (c : Cls K C) (n : NoAttr K C f) (l : fs.length < 1000) (h : R (upd H a (.ins C dx (putF f y fs)))) :
    ∃ a' C' dx' fs', V.ref a = .ref a' ∧ H a' = some (.ins C' dx' fs') ∧ Cls K C' ∧ NoAttr K C' f ∧ fs'.length < 1000 ∧ R (upd H a' (.ins C' dx' (putF f y fs'))) := ⟨a, C, dx, fs, rfl, h1, c, n, l, h⟩
end
end L2

set_option Elab.async false
set_option linter.all false
set_option maxRecDepth 100000
namespace L2
open PySem PySem.Spec PyProof.Rows
/-! ### data stay when only an instance is stored to -/
/-- every list, tuple and table stays -/
def Dat (H H' : Hp) : Prop := (∀ b xs, H b = some (.lst xs) → H' b = some (.lst xs)) ∧ (∀ b xs, H b = some (.tup xs) → H' b = some (.tup xs)) ∧ ∀ b kvs, H b = some (.dK kvs) → H' b = some (.dK kvs)
theorem Same.dat {H H' : Hp} (h : Same H H') : Dat H H' := ⟨fun b xs e => h b _ e, fun b xs e => h b _ e, fun b xs e => h b _ e⟩
theorem Dat.trans {H H1 H2 : Hp} (a : Dat H H1) (b : Dat H1 H2) : Dat H H2 := ⟨fun c o e => b.1 c o (a.1 c o e), fun c o e => b.2.1 c o (a.2.1 c o e), fun c o e => b.2.2 c o (a.2.2 c o e)⟩
theorem Dat.ins {H : Hp} {p C dx : Addr} {fs : List (Str × V)} (hp : H p = some (.ins C dx fs)) (o : HO) : Dat H (upd H p o) := by
  refine ⟨fun b xs e => ?_, fun b xs e => ?_, fun b xs e => ?_⟩ <;>
  · have hb : b ≠ p := fun z => by rw [z, hp] at e; cases e
    rw [upd_ne hb]; exact e

/-- all but p stays -/
theorem off_new {H H1 H2 : Hp} {p : Addr} (h : ∀ b o, b ≠ p → H b = some o → H1 b = some o) (s : Same H1 H2) : ∀ b o, b ≠ p → H b = some o → H2 b = some o := fun b o hb e => s _ _ (h b o hb e)
theorem off_upd {H H1 : Hp} {p : Addr} {x : HO} (h : ∀ b o, b ≠ p → H b = some o → H1 b = some o) : ∀ b o, b ≠ p → H b = some o → (upd H1 p x) b = some o := fun b o hb e => by rw [upd_ne hb]; exact h b o hb e
theorem i_din {ty td : TE} {σ : St} {H : Hp} {Q : VK} (h : ty σ H fun y H1 => td σ H1 fun x H2 => ∃ a o, x = .ref a ∧ DGet H2 a y o ∧ Q (.bl o.isSome) H2) : tDIn ty td σ H Q := h
theorem i_tB {t : TE} {σ : St} {H : Hp} {Q : Bool → Hp → Prop} (h : t σ H fun x H1 => ∃ c, x = .bl c ∧ Q c H1) : tB t σ H Q := h
theorem i_insL {l : Addr} {i : Int} {y : V} {xs : List V} {H : Hp} {Q : VK} (h1 : H l = some (.lst xs)) (h2 : 0 ≤ i ∧ i ≤ xs.length ∧ xs.length < 1000000) (h : Q .non (upd H l (.lst (xs.take i.toNat ++ y :: xs.drop i.toNat)))) : fInsert (.ref l) [.int i, y] H Q := by
  show (match H l with | some (.lst xs) => 0 ≤ i ∧ i ≤ xs.length ∧ xs.length < 1000000 ∧ Q .non (upd H l (.lst (xs.take i.toNat ++ y :: xs.drop i.toNat))) | _ => False)
  rw [h1]; exact ⟨h2.1, h2.2.1, h2.2.2, h⟩
/-! ### a view -/
structure View where
  t : List Nat
  b : Option Nat
  i : Int
  j : Int
end L2

set_option Elab.async false
set_option linter.all false
set_option maxRecDepth 100000
namespace L2
open PySem
/-! ### own exceptions of two storeys over ValueError, made -/
abbrev vBM : List Value := [.type "ValueError", .type "Exception", .type "BaseException", .type "object"]
abbrev xNew : String := "ValueError.__new__"
abbrev xIni : String := "ValueError.__init__"
theorem xB : ExcBaseFacts "ValueError" xNew xIni vBM := PySem.F.excBase_ValueError
/-- what a look at the heap finds -/
def Lk (M : Model) (h : Heap) {α : Type} (m : Sem α) (r : α) : Prop := ∀ (A : Around) (Q : α → Shared → Prop) (E : Value → Shared → Prop) (s : Shared), s.heap = h → Q r s → wpAny M A m Q E s
theorem Lk.run {M : Model} {h : Heap} {α : Type} {m : Sem α} {r : α} (l : Lk M h m r) {A : Around} {Q : α → Shared → Prop} {E : Value → Shared → Prop} {s : Shared} (e : s.heap = h) (q : Q r s) : wpAny M A m Q E s := l A Q E s e q
/-- the tuple of the arguments, the exception behind it -/
abbrev xcObj (C : Addr) (t : Addr) : Obj := { cls := .ref C, data := .fields #[.ref t, .none, .none, .none, .bool false, .none] }
def xcHeap (C : Addr) (us : List Value) (h : Heap) : Heap := (h.push { cls := .type "tuple", data := .seq us.toArray }).push (xcObj C h.objs.size)
theorem xcHeap_keep {C : Addr} {us : List Value} {h : Heap} {b : Addr} {o : Obj} (e : h.get? b = some o) : (xcHeap C us h).get? b = some o := Heap.get?_push_of_some _ (Heap.get?_push_of_some _ e)
theorem xcHeap_at {C : Addr} {us : List Value} {h : Heap} : (xcHeap C us h).get? (h.objs.size + 1) = some (xcObj C h.objs.size) := by
  have := Heap.get?_push_size (h.push { cls := .type "tuple", data := .seq us.toArray }) (o := xcObj C h.objs.size) rfl
  rwa [Heap.size_push] at this
section
variable {prog : Program} {w : World} {M : Model} {A : Around} {E : Value → Shared → Prop} {R : Result → Shared → Prop} {h : Heap} {g : Array GenState} {dr : Drawn} {tk : Nat} {os : OsState}
variable {nm qn : Str} {C N W : Addr} {bs : List Value} {hdct : Bool} {sn : List Str} {sub : List Value} {ab : Bool} {col : Option Bool} {dd : Option Addr} {k0 k1 k2 k3 k5 : Option Value} {us : List Value}
theorem two_has {X : String} {b : Bool} (e : vBM.contains (.type X) = b) : (Value.ref C :: .ref W :: vBM).contains (.type X) = b := by
  rw [List.contains_cons, List.contains_cons, e]; rfl
theorem xc_check_new {Q : Unit → Shared → Prop} (oC : h.get? C = some (excClassObj nm qn C N bs (.ref W :: vBM) hdct sn sub ab col dd k0 k1 k2 k3 k5 xNew)) (k : Q () ⟨h, g, dr, tk, os⟩) :
    wpAny M A (checkBuiltinCall xNew ⟨.ref C :: us, []⟩) Q E ⟨h, g, dr, tk, os⟩ := by
  have c1 : (Value.ref C :: .ref W :: vBM).contains (.type "ValueError") = true := two_has xB.hasB
  have c2 := xB.noStar
  simp only [checkBuiltinCall, xB.newKind, xB.newSplit, xB.newRow]
  repeat (first | refine wpAny_loadPart_at oC ?_ | (refine wpAny_isSubtype_exc oC ?_; rw [c1]) | refine wpAny_staticBase_exc oC ?_ | refine wpAny_madeBy_exc oC ?_ | simp only [bne_self_eq_false, Bool.false_eq_true, if_false] | wp_step)
  exact k
theorem xc_new (oC : h.get? C = some (excClassObj nm qn C N bs (.ref W :: vBM) hdct sn sub ab col dd k0 k1 k2 k3 k5 xNew))
    (k : R (.ok (.ret (.ref (h.objs.size + 1)))) ⟨xcHeap C us h, g, dr, tk, os⟩) (hus : us.length ≤ sizeLine) :
    codeAny (model prog w) A (.builtin xNew ⟨.ref C :: us, []⟩) R ⟨h, g, dr, tk, os⟩ := by
  have c0 := xB.ends
  have c1 : (Value.ref C :: .ref W :: vBM).contains (.type "ValueError") = true := two_has xB.hasB
  have c2 : (Value.ref C :: .ref W :: vBM).contains (.type "AttributeError") = false := two_has xB.noAttr
  have c3 : (Value.ref C :: .ref W :: vBM).contains (.type "NameError") = false := two_has xB.noName
  refine codeAny_builtinAt xB.entry ?_
  unfold Builtin.«BaseException.__new__»
  refine wpAt_bind ?_
  show wpAt _ _ _ (stack >>= _) _ _ _
  refine wpAt_bind (wpAt_stack fun p below => wpAt_of_wpAny ?_)
  wp_walk
  refine wpAt_of_wpAny ?_
  rw [xB.owner]
  repeat (first | with_reducible refine wpAny_madeHere_exc xB.canon oC ?_ | with_reducible refine wpAny_loadPart_at oC ?_ | (with_reducible refine wpAny_isSubtype_exc oC ?_; first | rw [c1] | rw [c2] | rw [c3]) | wp_step)
  show R _ _
  rw [Heap.size_push]
  exact k
theorem xc_check_init {e : Addr} {oe : Obj} {Q : Unit → Shared → Prop} (oC : h.get? C = some (excClassObj nm qn C N bs (.ref W :: vBM) hdct sn sub ab col dd k0 k1 k2 k3 k5 xNew))
    (he : h.get? e = some oe) (ec : oe.cls = .ref C) (k : Q () ⟨h, g, dr, tk, os⟩) : wpAny M A (checkBuiltinCall xIni ⟨.ref e :: us, []⟩) Q E ⟨h, g, dr, tk, os⟩ := by
  have c1 : (Value.ref C :: .ref W :: vBM).contains (.type "ValueError") = true := two_has xB.hasB
  have c2 := xB.noStar
  simp only [checkBuiltinCall, xB.initKind, xB.initSplit, xB.initRow]
  repeat (first | (with_reducible refine wpAny_loadPart_at he ?_; rw [ec]) | with_reducible refine wpAny_loadPart_at oC ?_ | (with_reducible refine wpAny_isSubtype_exc oC ?_; rw [c1]) | wp_step)
  refine wpAny_onRaise ?_
  rw [show ∀ (a b : String) (n : Nat), Bind.check ⟨.positional, "*", "ValueError", .self, [⟨"args", .varPos, false⟩]⟩ a b n (List.map (fun x => x.fst) ({ pos := Value.ref e :: us } : Args).kw) = pure () from fun a b n => check_star_args _ _ _ _ _ _]
  exact wpAny_pure k
/-- ValueError.__init__(e, ..): a new tuple of arguments -/
theorem xc_init {e : Addr} {od : Option Addr} {vs : Array Value} {Q : Value → Shared → Prop} (oC : h.get? C = some (excClassObj nm qn C N bs (.ref W :: vBM) hdct sn sub ab col dd k0 k1 k2 k3 k5 xNew))
    (he : h.get? e = some ⟨.ref C, od, .fields vs, #[]⟩) {t0 : Addr} (h0 : vs[0]? = some (.ref t0)) (hus : us.length ≤ sizeLine)
    (k : ∀ h', (∀ b o, b ≠ e → h.get? b = some o → h'.get? b = some o) → h'.get? e = some ⟨.ref C, od, .fields (vs.setIfInBounds 0 (.ref h.objs.size)), #[]⟩ → Q .none ⟨h', g, dr, tk, os⟩) :
    wpAny (model prog w) A (call (.builtin xIni) (.ref e :: us)) Q E ⟨h, g, dr, tk, os⟩ := by
  refine wpAny_call (codeAny_call_builtin xB.init.plain xB.initEntry (xc_check_init oC he rfl ?_))
  unfold Builtin.«BaseException.__init__»
  wp_walk
  rw [h0]
  have hz : 0 < vs.size := (Array.getElem?_eq_some_iff.mp h0).1
  have he2 : (h.push { cls := Value.type "tuple", data := Data.seq us.toArray }).get? e = some ⟨.ref C, od, .fields vs, #[]⟩ := Heap.get?_push_of_some _ he
  refine wpAny_pure (wpAny_bind (wpAny_setField he2 rfl hz ?_))
  wp_walk
  refine k _ (fun b o hb eb => ?_) ?_
  · rw [Heap.get?_update_other _ _ (Ne.symm hb)]; exact Heap.get?_push_of_some _ eb
  · rw [Heap.get?_update_self _ he2 rfl]; rfl
/-- C(..), C's own or inherited __init__ is f -/
theorem xc_tcall {f : Value} {Q : Fin → Shared → Prop} (oC : h.get? C = some (excClassObj nm qn C N bs (.ref W :: vBM) hdct sn sub ab col dd k0 k1 k2 k3 k5 xNew)) (hus : us.length ≤ sizeLine)
    (lk : Lk (model prog w) (xcHeap C us h) (typeLookup (.ref C) "__init__") (some f))
    (bd : Lk (model prog w) (xcHeap C us h) (bindSpecial f (.ref (h.objs.size + 1))) (f, [.ref (h.objs.size + 1)]))
    (k : wpAny (model prog w) A (call f (.ref (h.objs.size + 1) :: us)) (fun r s' => r = .none ∧ Q (.done (.ret (.ref (h.objs.size + 1)))) s') E ⟨xcHeap C us h, g, dr, tk, os⟩) :
    wpAny (model prog w) A (Builtin.«type.__call__» ⟨.ref C :: us, []⟩) Q E ⟨h, g, dr, tk, os⟩ := by
  repeat (first | with_reducible refine wpAny_loadPart_at oC ?_ | with_reducible refine wpAny_madeBy_exc oC ?_ | wp_step)
  refine codeAny_call_builtin_code (Code.quiet_builtin _ xB.quiet) (xc_check_new oC ?_)
  refine xc_new oC ?_ hus
  show wpAny _ _ _ _ _ _
  have oC1 := xcHeap_keep (C := C) (us := us) oC
  have hget := xcHeap_at (C := C) (us := us) (h := h)
  have c1 : (Value.ref C :: .ref W :: vBM).contains (.ref C) = true := by simp
  unfold isInstance
  repeat (first | with_reducible refine wpAny_loadPart_at hget ?_ | (with_reducible refine wpAny_isSubtype_exc oC1 ?_; rw [c1]) | wp_step)
  show wpAny _ _ (typeLookup (.ref C) _) _ _ _
  refine lk _ _ _ _ rfl ?_
  refine wpAny_holding (wpAny_bind (bd _ _ _ _ rfl ?_))
  refine wpAny_bind (wpAny_mono k (fun r s' hr => ?_) fun _ _ x => x)
  obtain ⟨rfl, hQ⟩ := hr
  wp_walk
  exact hQ
theorem xc_call {f : Value} {Q : Value → Shared → Prop} (oC : h.get? C = some (excClassObj nm qn C N bs (.ref W :: vBM) hdct sn sub ab col dd k0 k1 k2 k3 k5 xNew)) (hus : us.length ≤ sizeLine)
    (lk : Lk (model prog w) (xcHeap C us h) (typeLookup (.ref C) "__init__") (some f))
    (bd : Lk (model prog w) (xcHeap C us h) (bindSpecial f (.ref (h.objs.size + 1))) (f, [.ref (h.objs.size + 1)]))
    (k : wpAny (model prog w) (A.under (.builtin "type.__call__" ⟨.ref C :: us, []⟩)) (call f (.ref (h.objs.size + 1) :: us)) (fun r s' => r = .none ∧ Q (.ref (h.objs.size + 1)) s') E ⟨xcHeap C us h, g, dr, tk, os⟩) :
    wpAny (model prog w) A (call (.ref C) us) Q E ⟨h, g, dr, tk, os⟩ := by
  have c1 := tc_lookup
  have c2 := tc_bind (.ref C)
  have c3 : (⟨h, g, dr, tk, os⟩ : Shared).TypeIs (.ref C) "type" := ⟨_, oC, rfl⟩
  refine wpAny_call (codeAny_of_tree ?_)
  show wpAny _ _ (callAny (.ref C) _) _ _ _
  repeat (any_goals (first | assumption | with_reducible refine wpAny_loadPart_at oC ?_ | wp_step))
  refine ⟨rfl, ?_⟩
  exact codeAny_call_builtin_at (Code.quiet_builtin _ (by decide +kernel)) entry_typeCall (wpAny_check_type_call_sub oC (xc_tcall oC hus lk bd k))
theorem sV : StoreFacts "ValueError" vBM "object.__setattr__" "object" := PySem.F.store_ValueError
theorem xc_check_sa {e : Addr} {oe : Obj} {nv v : Value} {Q : Unit → Shared → Prop} (oC : h.get? C = some (excClassObj nm qn C N bs (.ref W :: vBM) hdct sn sub ab col dd k0 k1 k2 k3 k5 xNew))
    (he : h.get? e = some oe) (ec : oe.cls = .ref C) (k : Q () ⟨h, g, dr, tk, os⟩) : wpAny M A (checkBuiltinCall "object.__setattr__" ⟨[.ref e, nv, v], []⟩) Q E ⟨h, g, dr, tk, os⟩ := by
  have c1 : (Value.ref C :: .ref W :: vBM).contains (.type "object") = true := two_has sV.hasOwner
  have c2 := sV.args (.ref e) nv v
  simp only [checkBuiltinCall, sV.kind, sV.split]
  refine wpAny_bind ?_
  unfold isInstance
  repeat (first | (with_reducible refine wpAny_loadPart_at he ?_; rw [ec]) | (with_reducible refine wpAny_isSubtype_exc oC ?_; rw [c1]) | wp_step)
  exact k
open Builtin Builtin.ObjectAttr in
/-- e.name = v for an exception that has no dict yet -/
theorem xc_setattr {e : Addr} {vs : Array Value} {name : Str} {v : Value} {Q : Unit → Shared → Prop} (oC : h.get? C = some (excClassObj nm qn C N bs (.ref W :: vBM) true sn sub ab col dd k0 k1 k2 k3 k5 xNew))
    {oe : Obj} (he : h.get? e = some oe) (ec : oe.cls = .ref C) (ed : oe.dict = none) (ef : oe.data = .fields vs) (es : oe.slots = #[]) (ls : Lk (model prog w) h (typeLookup (.ref C) "__setattr__") (some (.builtin "object.__setattr__"))) (ln : Lk (model prog w) h (typeLookup (.ref C) name) none)
    (k : ∀ h' tk', h'.get? e = some ⟨.ref C, some h.objs.size, .fields vs, #[]⟩ → h'.Ns1 h.objs.size (fun y => if y = name then some v else none) → (∀ b o, b ≠ e → h.get? b = some o → h'.get? b = some o) → Q () ⟨h', g, dr, tk', os⟩) :
    wpAny (model prog w) A (setAttr (.ref e) name v) Q E ⟨h, g, dr, tk, os⟩ := by
  have c0 := sV.slot.bind (.ref e)
  have c1 := sV.passes (.ref e)
  unfold setAttr callSpecial? specialOf
  repeat (any_goals (first | assumption | (with_reducible refine wpAny_loadPart_at he ?_; rw [ec]) | (with_reducible refine Lk.run ls rfl ?_) | wp_step))
  refine codeAny_call_builtin sV.slot.plain sV.entry (xc_check_sa oC he ec ?_)
  unfold Builtin.«object.__setattr__»
  repeat (first | rw [refuse_eq] | (rw [refuseLoop_ref, refuseLoop_ref, c1]) | (with_reducible refine wpAny_loadPart_at he ?_; rw [ec]) | with_reducible refine wpAny_mroOf_exc oC ?_ | (with_reducible refine Lk.run ln rfl ?_) | wp_step)
  have hfr := (Heap.get?_some_iff.mp he).2
  obtain ⟨oc, od, odt, osl⟩ := oe
  dsimp only at ec ed ef es
  subst ec ed ef es
  dsimp only
  rw [if_neg (by simp [typeHasDict])]
  have he1 : (h.push { cls := .type "dict", data := .dict #[] }).get? e = some ⟨.ref C, none, .fields vs, #[]⟩ := Heap.get?_push_of_some _ he
  have hes : e ≠ h.objs.size := Nat.ne_of_lt (Heap.lt_size he)
  refine wpAny_bind (wpAny_alloc' (wpAny_bind (wpAny_update' he1 (wpAny_pure ?_))))
  have g1 : ((h.push { cls := .type "dict", data := .dict #[] }).update e fun o => { cls := o.cls, dict := some h.objs.size, data := o.data, slots := o.slots }).get? h.objs.size = some { cls := .type "dict", data := .dict #[] } :=
    (Heap.get?_update_ne _ _ _ _ hes.symm).trans (Heap.get?_push_at rfl rfl)
  have g2 : ((h.push { cls := .type "dict", data := .dict #[] }).update e fun o => { cls := o.cls, dict := some h.objs.size, data := o.data, slots := o.slots }).Ns h.objs.size (fun _ => none) :=
    ⟨_, #[], _, g1, rfl, fun y hy => absurd hy (by simp), fun _ => rfl⟩
  show wpAny _ _ (storeInDict h.objs.size (.str name tk) name v) _ _ _
  unfold storeInDict newKeyGuard
  refine wpAny_bind (wpAny_pure (wpAny_bind (wpAny_nsSet1 (Heap.Ns1.of_empty g2) fun h' hn' hs => ?_)))
  obtain ⟨oD, esD, epD, hoD, hdD, hcD⟩ := hn'.count (Within.cons name v Within.nil)
  refine wpAny_bind (wpAny_lookBehind hoD (by rw [hdD]; exact pastItsLine_dict (Nat.le_trans hcD (by rw [List.length_cons, List.length_nil, sizeLine_eq]; omega))) ?_)
  wp_walk
  refine k h' _ ?_ hn' fun b o hb eb => ?_
  · exact (hs.2 e hes).trans (Heap.get?_update_self _ he1 rfl)
  · exact (hs.2 b (Nat.ne_of_lt (Heap.lt_size eb))).trans ((Heap.get?_update_ne _ _ _ _ hb).trans (Heap.get?_push_of_some _ eb))
end
end L2

set_option Elab.async false
set_option linter.all false
set_option maxRecDepth 100000
namespace L2
open PySem
/-! ### an exception under way, over what stays; fl: where it is held -/
def Fl (base : Heap) (l : List Env) (e C : Addr) (od : Option Addr) (fl : Value) (h : Heap) : Prop :=
  base.StaysIn h ∧ base.get? e = none ∧ h.FunFrames base l ∧ ∃ (vs : Array Value) (T : Addr) (oT : Obj) (ts : Array Value) (t0 : Addr),
    h.get? e = some ⟨.ref C, od, .fields vs, #[]⟩ ∧ vs.size = 6 ∧ vs[0]? = some (.ref t0) ∧ vs[1]? = some (.ref T) ∧ base.get? T = none ∧ T ≠ e ∧ h.get? T = some oT ∧ oT.data = .fields ts ∧ ts[3]? = some fl
theorem Fl.tail {base h : Heap} {env : Env} {l : List Env} {e C : Addr} {od : Option Addr} {fl : Value} (x : Fl base (env :: l) e C od fl h) : Fl base l e C od fl h :=
  ⟨x.1, x.2.1, x.2.2.1.2.2, x.2.2.2⟩
theorem Fl.at {base h : Heap} {l : List Env} {e C : Addr} {od : Option Addr} {fl : Value} (x : Fl base l e C od fl h) : ∃ (vs : Array Value) (t0 : Addr), h.get? e = some ⟨.ref C, od, .fields vs, #[]⟩ ∧ vs.size = 6 ∧ vs[0]? = some (.ref t0) := by
  obtain ⟨_, _, _, vs, T, oT, ts, t0, a1, a2, a3, _⟩ := x
  exact ⟨vs, t0, a1, a2, a3⟩
section
variable {M : Model} {A : Around} {E : Value → Shared → Prop} {s : Shared} {base : Heap} {env : Env} {outer l : List Env} {L e C : Addr} {od : Option Addr} {Q : Unit → Shared → Prop}
theorem fl_entry {vs : Array Value} {head : Value} {hadNext : Bool} {t0 : Addr} (hfr : A.frames = some (env :: outer)) (hl : s.heap.FunFrames base (env :: outer)) (hf : env.frame = some L) (hkb : base.StaysIn s.heap) (hen : base.get? e = none)
    (he : s.heap.get? e = some ⟨.ref C, od, .fields vs, #[]⟩) (hz : vs.size = 6) (h0 : vs[0]? = some (.ref t0))
    (k : ∀ h', Fl base (env :: outer) e C od (rawInt L) h' → s.heap.UpToSlots h' → Q () { s with heap := h' }) :
    wpAny M A (do let a ← frameOf env; let pl ← entryPlaceOf L hadNext; let b ← EntryCells.newEntry head a .none (rawInt L) .none pl; setField (.ref e) 1 b) Q E s := by
  have ene : e ∉ (env :: outer).filterMap (·.frame) := fun hm => by
    obtain ⟨_, o, ho, hnf⟩ := hl.mem hm
    rw [he] at ho; cases ho; exact hnf vs rfl
  refine wpAny_bind (wpAny_frameOf_fun hfr hl hf fun h1 hs1 => ?_)
  refine wpAny_bind (wpAny_entryPlaceOf fun pl hpl => ?_)
  unfold EntryCells.newEntry newFields
  refine wpAny_bind (wpAny_newObj_type ?_ (hpl.sizeOk5 _ _ _ _ _))
  have e1 : h1.get? e = some ⟨.ref C, od, .fields vs, #[]⟩ := (hs1.2.1 e ene).trans he
  have kb1 : base.StaysIn h1 := fun b o hbo => (hs1.2.1 b fun hm => by rw [(hl.mem hm).1] at hbo; cases hbo).trans (hkb b o hbo)
  generalize hoT : ({ cls := .type "traceback", dict := none, data := .fields ([head, .ref L, .none, rawInt L, .none] ++ (if pl.isEmpty then List.replicate 6 Value.none else pl)).toArray } : Obj) = oT
  have e2 := Heap.get?_push_of_some (h := h1) oT e1
  have hTe : h1.objs.size ≠ e := Nat.ne_of_gt (Heap.lt_size e1)
  have hnT : oT.isFreed = false := by rw [← hoT]; rfl
  have eT := Heap.get?_push_size h1 (o := oT) hnT
  refine wpAny_setField e2 rfl (by rw [hz]; decide) ?_
  have keep : ∀ b o, b ≠ e → h1.get? b = some o → ((h1.push oT).update e (Obj.mapFields (·.setIfInBounds 1 (Value.ref h1.objs.size)))).get? b = some o := fun b o hbe hb => by
    rw [Heap.get?_update_other _ _ (Ne.symm hbe)]
    exact Heap.get?_push_of_some _ hb
  have nore : ∀ b o, s.heap.get? b = some o → (∀ vs, o.data ≠ .fields vs) → b ≠ e := fun b o hb hnf q => by
    rw [q, he] at hb; cases hb; exact hnf vs rfl
  refine k _ ⟨fun b o hbo => keep b o (fun q => by rw [q, hen] at hbo; cases hbo) (kb1 b o hbo), hen, hl.of_keeps fun b o hb hnf => ?_, vs.setIfInBounds 1 (.ref h1.objs.size), h1.objs.size, oT, _, t0, ?_, ?_, ?_, ?_, kb1.fresh, hTe, ?_, by rw [← hoT], ?_⟩ fun b o hb hnf => ?_
  · obtain ⟨sl, hs⟩ := hs1.2.2 b o hb
    exact ⟨_, keep b _ (nore b o hb hnf) hs, rfl⟩
  · rw [Heap.get?_update_self _ e2 rfl]; rfl
  · rw [Array.size_setIfInBounds]; exact hz
  · rw [Array.getElem?_setIfInBounds_ne (by decide)]; exact h0
  · simp [hz]
  · rw [Heap.get?_update_other _ _ (Ne.symm hTe)]; exact eT
  · rcases hpl with rfl | ⟨_, _, _, _, _, _, _, rfl⟩ <;> simp
  · obtain ⟨sl, hs⟩ := hs1.2.2 b o hb
    exact ⟨sl, keep b _ (nore b o hb hnf) hs⟩
/-- the frame is noted: the first one -/
theorem fl_note0 {vs : Array Value} {t0 : Addr} (hfr : A.frames = some (env :: outer)) (hl : s.heap.FunFrames base (env :: outer)) (hf : env.frame = some L) (hkb : base.StaysIn s.heap) (hen : base.get? e = none)
    (he : s.heap.get? e = some ⟨.ref C, od, .fields vs, #[]⟩) (hz : vs.size = 6) (h0 : vs[0]? = some (.ref t0)) (h1 : vs[1]? = some .none)
    (k : ∀ h', Fl base (env :: outer) e C od (rawInt L) h' → s.heap.UpToSlots h' → Q () { s with heap := h' }) : wpAny M A (noteFrame (.ref e) env) Q E s := by
  unfold noteFrame
  simp only [hf]
  refine wpAny_bind (wpAny_field he rfl h1 ?_)
  rw [if_neg (by decide)]
  exact fl_entry hfr hl hf hkb hen he hz h0 k
theorem upd_field {h : Heap} {T : Addr} {oT : Obj} {ts : Array Value} {i : Nat} {x : Value} (hT : h.get? T = some oT) (hd : oT.data = .fields ts) :
    (∀ b, b ≠ T → (h.update T (Obj.mapFields (·.setIfInBounds i x))).get? b = h.get? b) ∧ (h.update T (Obj.mapFields (·.setIfInBounds i x))).get? T = some (oT.mapFields (·.setIfInBounds i x)) :=
  ⟨fun b hb => Heap.get?_update_other _ _ (Ne.symm hb), Heap.get?_update_self _ hT (Obj.isFreed_of_fields (Obj.data_mapFields hd _))⟩
/-- of another frame -/
theorem fl_note (hfr : A.frames = some (env :: outer)) (hf : env.frame = some L) (x : Fl base (env :: outer) e C od .none s.heap)
    (k : ∀ h', Fl base (env :: outer) e C od (rawInt L) h' → s.heap.UpToSlots h' → Q () { s with heap := h' }) : wpAny M A (noteFrame (.ref e) env) Q E s := by
  obtain ⟨hkb, hen, hl, vs, T, oT, ts, t0, he, hz, h0, h1, hnT, hTe, hT, hdT, h3⟩ := x
  unfold noteFrame
  simp only [hf]
  refine wpAny_bind (wpAny_field he rfl h1 ?_)
  rw [if_pos (show (Value.ref T != Value.none) = true from by simp)]
  refine wpAny_bind (wpAny_field hT hdT h3 ?_)
  rw [if_neg (show ¬ ((Value.none == rawInt L) = true) from by simp [rawInt])]
  refine wpAny_bind (wpAny_setField hT hdT (Array.getElem?_eq_some_iff.mp h3).1 ?_)
  obtain ⟨ot, _⟩ := upd_field (i := 3) (x := Value.none) hT hdT
  have norT : ∀ b o, s.heap.get? b = some o → (∀ vs, o.data ≠ .fields vs) → b ≠ T := fun b o hb hnf q => by
    rw [q, hT] at hb; cases hb; exact hnf ts hdT
  refine fl_entry (s := { s with heap := s.heap.update T (Obj.mapFields (·.setIfInBounds 3 Value.none)) }) hfr (hl.of_keeps fun b o hb hnf => ⟨o, (ot b (norT b o hb hnf)).trans hb, rfl⟩) hf
    (fun b o hbo => (ot b fun q => by rw [q, hnT] at hbo; cases hbo).trans (hkb b o hbo)) hen ((ot e (Ne.symm hTe)).trans he) hz h0 fun h' x1 x2 => k h' x1 fun b o hb hnf => ?_
  exact x2 b o ((ot b (norT b o hb hnf)).trans hb) hnf
/-- it is held nowhere -/
theorem fl_free {fl : Value} (x : Fl base l e C od fl s.heap) (k : ∀ h', Fl base l e C od .none h' → s.heap.UpToSlots h' → Q () { s with heap := h' }) : wpAny M A (setFlight (.ref e) none) Q E s := by
  obtain ⟨hkb, hen, hl, vs, T, oT, ts, t0, he, hz, h0, h1, hnT, hTe, hT, hdT, h3⟩ := x
  unfold setFlight
  refine wpAny_bind (wpAny_field he rfl h1 ?_)
  rw [if_pos (show (Value.ref T != Value.none) = true from by simp)]
  have hz3 := (Array.getElem?_eq_some_iff.mp h3).1
  obtain ⟨ot, oT2⟩ := upd_field (i := 3) (x := Value.none) hT hdT
  have norT : ∀ b o, s.heap.get? b = some o → (∀ vs, o.data ≠ .fields vs) → b ≠ T := fun b o hb hnf q => by
    rw [q, hT] at hb; cases hb; exact hnf ts hdT
  refine wpAny_setField hT hdT hz3 (k _ ⟨fun b o hbo => (ot b fun q => by rw [q, hnT] at hbo; cases hbo).trans (hkb b o hbo), hen, hl.of_keeps fun b o hb hnf => ⟨o, (ot b (norT b o hb hnf)).trans hb, rfl⟩,
    vs, T, _, ts.setIfInBounds 3 .none, t0, (ot e (Ne.symm hTe)).trans he, hz, h0, h1, hnT, hTe, oT2, Obj.data_mapFields hdT _, by simp [hz3]⟩ fun b o hb hnf => ⟨o.slots, (ot b (norT b o hb hnf)).trans hb⟩)
/-- it leaves a frame -/
theorem fl_leave (hfr : A.frames = some (env :: outer)) (hf : env.frame = some L) (x : Fl base (env :: outer) e C od .none s.heap)
    (k : ∀ h', Fl base outer e C od .none h' → s.heap.UpToSlots h' → Q () { s with heap := h' }) : wpAny M A (leaving env (.ref e)) Q E s := by
  unfold leaving
  refine wpAny_bind (fl_note hfr hf x fun h1 x1 u1 => ?_)
  exact fl_free (s := { s with heap := h1 }) x1 fun h2 x2 u2 => k h2 x2.tail (u1.trans u2)
theorem fl_leave0 {vs : Array Value} {t0 : Addr} (hfr : A.frames = some (env :: outer)) (hl : s.heap.FunFrames base (env :: outer)) (hf : env.frame = some L) (hkb : base.StaysIn s.heap) (hen : base.get? e = none)
    (he : s.heap.get? e = some ⟨.ref C, od, .fields vs, #[]⟩) (hz : vs.size = 6) (h0 : vs[0]? = some (.ref t0)) (h1 : vs[1]? = some .none)
    (k : ∀ h', Fl base outer e C od .none h' → s.heap.UpToSlots h' → Q () { s with heap := h' }) : wpAny M A (leaving env (.ref e)) Q E s := by
  unfold leaving
  refine wpAny_bind (fl_note0 hfr hl hf hkb hen he hz h0 h1 fun h2 x2 u2 => ?_)
  exact fl_free (s := { s with heap := h2 }) x2 fun h3 x3 u3 => k h3 x3.tail (u2.trans u3)
end
end L2

set_option Elab.async false
set_option linter.all false
set_option maxRecDepth 100000
namespace L2
open PySem
section
variable {M : Model} {A : Around} {E : Value → Shared → Prop} {env : Env}
variable {nm qn : Str} {C N W : Addr} {bs : List Value} {hdct : Bool} {sn : List Str} {sub : List Value} {ab : Bool} {col : Option Bool} {dd : Option Addr} {k0 k1 k2 k3 k5 : Option Value}
/-- raise x -/
theorem xc_raiseStmt {s : Shared} {x : Sem Value} {Q : Flow → Shared → Prop} (hh : A.handled = none)
    (k : wpAny M A x (fun v s1 => ∃ e od vs, v = .ref e ∧ (∃ nm qn C N bs W hdct sn sub ab col dd k0 k1 k2 k3 k5, s1.heap.get? C = some (excClassObj nm qn C N bs (.ref W :: vBM) hdct sn sub ab col dd k0 k1 k2 k3 k5 xNew) ∧
      s1.heap.get? e = some ⟨.ref C, od, .fields vs, #[]⟩) ∧ vs[1]? = some .none ∧ E (.ref e) s1) E s) : wpAny M A (raiseStmt env (some x) none) Q E s := by
  unfold raiseStmt
  refine wpAny_bind (wpAny_mono k (fun v s1 z => ?_) fun _ _ x => x)
  obtain ⟨e, od, vs, rfl, ⟨nm, qn, C, N, bs, W, hdct, sn, sub, ab, col, dd, k0, k1, k2, k3, k5, oC, he⟩, h1, hE⟩ := z
  have c1 : (Value.ref C :: .ref W :: vBM).contains (.type "BaseException") = true := two_has xB.hasBase
  obtain ⟨hp, g, d, tk, os⟩ := s1
  repeat (first | with_reducible refine wpAny_loadPart_at he ?_ | with_reducible refine wpAny_loadPart_at oC ?_ | (with_reducible refine wpAny_isSubtype_exc oC ?_; rw [c1]) | wp_step)
  rw [h1]
  refine wpAny_pure ?_
  rw [if_neg (show ¬ ((Value.none != Value.none) = true) from by decide)]
  exact wpAny_pure (wpAny_raiseNew_none hh hE)
theorem xc_raise {s : Shared} {x : Expr} {pos : Pos} {Q : Flow → Shared → Prop} (hh : A.handled = none)
    (k : wpAny M A (eval x env) (fun v s1 => ∃ e od vs, v = .ref e ∧ (∃ nm qn C N bs W hdct sn sub ab col dd k0 k1 k2 k3 k5, s1.heap.get? C = some (excClassObj nm qn C N bs (.ref W :: vBM) hdct sn sub ab col dd k0 k1 k2 k3 k5 xNew) ∧
      s1.heap.get? e = some ⟨.ref C, od, .fields vs, #[]⟩) ∧ vs[1]? = some .none ∧ E (.ref e) s1) E s) : wpAny M A (exec (.Raise (some x) none pos) env) Q E s := by
  rw [arm_exec_Raise]
  refine wpAny_bind (wpAny_standAt ?_)
  show wpAny M A (raiseStmt env (some (do let v ← eval x env; standAt pos; pure v)) none) Q E s
  exact xc_raiseStmt hh (wpAny_bind (wpAny_mono k (fun v s1 z => wpAny_bind (wpAny_standAt (wpAny_pure z))) fun _ _ y => y))
/-- except W: of an exception whose class stands right under W -/
theorem xc_matches {h : Heap} {g : Array GenState} {dr : Drawn} {tk : Nat} {os : OsState} {e : Addr} {oe : Obj} {Q : Bool → Shared → Prop} {nm2 q2 : Str} {N2 : Addr} {bs2 : List Value} {hd2 : Bool} {sn2 : List Str} {sub2 : List Value} {ab2 : Bool} {col2 : Option Bool} {dd2 : Option Addr} {j0 j1 j2 j3 j5 : Option Value} {nw2 : String}
    (oC : h.get? C = some (excClassObj nm qn C N bs (.ref W :: vBM) hdct sn sub ab col dd k0 k1 k2 k3 k5 xNew)) (oW : h.get? W = some (excClassObj nm2 q2 W N2 bs2 vBM hd2 sn2 sub2 ab2 col2 dd2 j0 j1 j2 j3 j5 nw2))
    (he : h.get? e = some oe) (ec : oe.cls = .ref C) (k : Q true ⟨h, g, dr, tk, os⟩) : wpAny M A (excMatches (.ref e) (.ref W)) Q E ⟨h, g, dr, tk, os⟩ := by
  have c1 : (Value.ref W :: vBM).contains (.type "BaseException") = true := by rw [List.contains_cons, xB.hasBase, Bool.or_true]
  have c2 : (Value.ref C :: .ref W :: vBM).contains (.ref W) = true := by simp
  have c3 := tc_notTuple
  unfold excMatches
  repeat (first | (with_reducible refine wpAny_loadPart_at he ?_; rw [ec]) | with_reducible refine wpAny_loadPart_at oW ?_ | (with_reducible refine wpAny_isSubtype_exc oW ?_; rw [c1]) | (with_reducible refine wpAny_isSubtype_exc oC ?_; rw [c2]) | wp_step)
  exact k
end
end L2

set_option Elab.async false
set_option linter.all false
set_option maxRecDepth 100000
namespace L2
open PySem
/-! ### reading an attribute of an exception -/
abbrev xGa : String := "BaseException.__getattribute__"
section
variable {prog : Program} {w : World} {M : Model} {A : Around} {E : Value → Shared → Prop} {h : Heap} {g : Array GenState} {dr : Drawn} {tk : Nat} {os : OsState}
variable {nm qn : Str} {C N W e : Addr} {bs : List Value} {hdct : Bool} {sn : List Str} {sub : List Value} {ab : Bool} {col : Option Bool} {dd : Option Addr} {k0 k1 k2 k3 k5 : Option Value} {oe : Obj}
theorem xg_check {nv : Value} {Q : Unit → Shared → Prop} (oC : h.get? C = some (excClassObj nm qn C N bs (.ref W :: vBM) hdct sn sub ab col dd k0 k1 k2 k3 k5 xNew))
    (he : h.get? e = some oe) (ec : oe.cls = .ref C) (k : Q () ⟨h, g, dr, tk, os⟩) : wpAny M A (checkBuiltinCall xGa ⟨[.ref e, nv], []⟩) Q E ⟨h, g, dr, tk, os⟩ := by
  have c0 : builtinKind xGa = some .slot := by decide +kernel
  have c1 : splitId xGa = some ("BaseException", "__getattribute__") := by decide +kernel
  have c2 : (Value.ref C :: .ref W :: vBM).contains (.type "BaseException") = true := two_has xB.hasBase
  have c3 := PySem.F.args_bexc_ga (.ref e) nv
  simp only [checkBuiltinCall, c0, c1]
  refine wpAny_bind ?_
  unfold isInstance
  repeat (first | (with_reducible refine wpAny_loadPart_at he ?_; rw [ec]) | (with_reducible refine wpAny_isSubtype_exc oC ?_; rw [c2]) | wp_step)
  exact k
/-- by its own __getattribute__, from what that tells -/
theorem xg_by {name : Str} {tn : Tok} {fill expr : Bool} {Q : Value → Shared → Prop} (oC : h.get? C = some (excClassObj nm qn C N bs (.ref W :: vBM) hdct sn sub ab col dd k0 k1 k2 k3 k5 xNew)) (he : h.get? e = some oe) (ec : oe.cls = .ref C)
    (l1 : Lk (model prog w) h (typeLookup (.ref C) "__getattribute__") (some (.builtin xGa))) (l2 : Lk (model prog w) h (typeLookup (.ref C) "__getattr__") none)
    (k : wpAny (model prog w) A.in1 (Builtin.«object.__getattribute__» ⟨[.ref e, .str name tn], []⟩) (fun fin s' => match fin with | .done (.ret v) => wpAny (model prog w) A (handedOut v) Q E s' | _ => False) (fun _ _ => False) ⟨h, g, dr, tk, os⟩) :
    wpAny (model prog w) A (getAttrBy (.ref e) (.str name tn) fill expr) Q E ⟨h, g, dr, tk, os⟩ := by
  have c0 := (PySem.F.attr_ValueError).ga.bind (.ref e)
  have c1 : (expr && onTheHeap (Value.builtin xGa)) = false := by cases expr <;> rfl
  have c2 : (Value.builtin xGa == Value.builtin "object.__getattribute__") = false := by decide +kernel
  have c3 : (onTheHeap (Value.ref C) && Value.builtin xGa == Value.builtin "object.__getattribute__") = false := by rw [c2]; rfl
  repeat (any_goals (first | assumption | (with_reducible refine wpAny_loadPart_at he ?_; rw [ec]) | with_reducible refine Lk.run l1 rfl ?_ | with_reducible refine Lk.run l2 rfl ?_ | wp_step))
  refine codeAny_call_builtin (PySem.F.attr_ValueError).ga.plain PySem.F.entry_bexc_ga (xg_check oC he ec (wpAny_mono k (fun fin s' z => ?_) fun _ _ z => z.elim))
  rcases fin with (_ | _ | _ | _) | _ <;> first | exact z | exact z.elim | (repeat (any_goals (first | assumption | wp_step)))
end
theorem lk_of {M : Model} {h : Heap} {α : Type} {m : Sem α} {r : α} (l : PySem.W.Looks M h m r) : Lk M h m r := fun A Q E s e q => l A Q E s (fun b o z => by rw [e]; exact z) q
section
open PySem.W
variable {prog : Program} {w : World} {A : Around} {E : Value → Shared → Prop} {s : Shared} {K : Frag} {x C W N : Addr} {ox : Obj} {od : Option Obj} {name : Str} {expr : Bool}
variable {nm qn : Str} {bs : List Value} {hdct : Bool} {sn : List Str} {sub : List Value} {ab : Bool} {col : Option Bool} {dd : Option Addr} {k0 k1 k2 k3 k5 : Option Value}
theorem xg_value {v : Value} {Q : Value → Shared → Prop} (X : K.In s.heap) (I : InstAt s.heap x ox C od) (oC : K.lookup C = some (excClassObj nm qn C N bs (.ref W :: vBM) hdct sn sub ab col dd k0 k1 k2 k3 k5 xNew))
    (g1 : findIn K (.ref C) "__getattribute__" = some (some (.builtin xGa))) (g2 : findIn K (.ref C) "__getattr__" = some none) (hf : findObj K C od name = some (.value v)) (hh : handedIn v = true) (h : Q v { s with toks := s.toks + 1 }) :
    wpAny (model prog w) A (getAttr (.ref x) name expr) Q E s := by
  obtain ⟨hh', g, d, t, os⟩ := s
  have L0 := lk_of (I.type (M := model prog w))
  have L1 := lk_of (looks_find (M := model prog w) X I hf)
  unfold getAttr
  refine wpAny_bind (wpAny_mkText ?_)
  refine xg_by (X _ _ oC) I.at_ I.cls (lk_of (looks_findIn X g1)) (lk_of (looks_findIn X g2)) ?_
  refine wpAny_bind (wpAny_pure (wpAny_bind (wpAny_pure (wpAny_bind (L0.run rfl (wpAny_bind (L1.run rfl (wpAny_pure ?_))))))))
  show wpAny _ _ (handedOut v) _ _ _
  rw [handedOut_of hh]; exact wpAny_pure h
theorem xg_class {Q : Option Value → Shared → Prop} (X : K.In s.heap) (I : InstAt s.heap x ox C od) (oC : K.lookup C = some (excClassObj nm qn C N bs (.ref W :: vBM) hdct sn sub ab col dd k0 k1 k2 k3 k5 xNew))
    (g1 : findIn K (.ref C) "__getattribute__" = some (some (.builtin xGa))) (g2 : findIn K (.ref C) "__getattr__" = some none) (hf : findObj K C od "__class__" = some (.bind (.builtin "getset_descriptor.__get__") (.builtin "object.__class__")))
    (hm : mroIn K C (.type "object") = some true) (h : Q (some (.ref C)) { s with toks := s.toks + 1 }) : wpAny (model prog w) A (getAttr? (.ref x) "__class__") Q E s := by
  obtain ⟨hh', g, d, t, os⟩ := s
  have L0 := lk_of (I.type (M := model prog w))
  have L1 := lk_of (looks_find (M := model prog w) X I hf)
  unfold getAttr? getAttrBy?
  refine wpAny_bind (wpAny_mkText (wpAny_bind (wpAny_attempt ?_)))
  refine xg_by (X _ _ oC) I.at_ I.cls (lk_of (looks_findIn X g1)) (lk_of (looks_findIn X g2)) ?_
  refine wpAny_bind (wpAny_pure (wpAny_bind (wpAny_pure (wpAny_bind (L0.run rfl (wpAny_bind (L1.run rfl ?_)))))))
  show wpAny _ _ (holding [Value.builtin "object.__class__"] (call (.builtin "getset_descriptor.__get__") [.builtin "object.__class__", .ref x, .ref C]) >>= ret) _ _ _
  refine wpAny_bind (wpAny_holding (wpAny_call (class_get (s := ⟨hh', g, d, t + 1, os⟩) (ox := ox) (od := od) X I hm ?_)))
  refine wpAny_pure ?_
  show wpAny _ _ (handedOut (.ref C)) _ _ _
  rw [handedOut_of rfl]
  exact wpAny_pure (wpAny_pure h)
end
end L2

set_option Elab.async false
set_option linter.all false
set_option maxRecDepth 100000
namespace L2
open PySem PySem.Spec PyProof.Rows
/-! ### exceptions of own classes, tracked: the class, the dict; fr: never raised yet -/
def XO (e C : Addr) (od : Option Addr) (fr : Bool) : HO := .ext fun h => ∃ (vs : Array Value) (t0 : Addr), h.get? e = some ⟨.ref C, od, .fields vs, #[]⟩ ∧ vs.size = 6 ∧ vs[0]? = some (.ref t0) ∧ (fr = true → vs[1]? = some .none)
theorem xo_ok {P : Program} {w : World} {H : Hp} {h : Heap} {e C : Addr} {od : Option Addr} {fr : Bool} {vs : Array Value} {t0 : Addr} (he : h.get? e = some ⟨.ref C, od, .fields vs, #[]⟩) (hz : vs.size = 6) (h0 : vs[0]? = some (.ref t0)) (h1 : fr = true → vs[1]? = some .none) :
    ObjOk P w H h e (XO e C od fr) := ⟨⟨vs, t0, he, hz, h0, h1⟩, ⟨_, he⟩, fun _ _ ⟨vs, t0, a, b⟩ k => ⟨vs, t0, k _ a, b⟩⟩
theorem xo_get {P : Program} {w : World} {H : Hp} {h : Heap} {e C : Addr} {od : Option Addr} {fr : Bool} (ok : HOk P w H h) (q : H e = some (XO e C od fr)) :
    ∃ (vs : Array Value) (t0 : Addr), h.get? e = some ⟨.ref C, od, .fields vs, #[]⟩ ∧ vs.size = 6 ∧ vs[0]? = some (.ref t0) ∧ (fr = true → vs[1]? = some .none) := (ok e _ q).1
theorem upd_self {H : Hp} {a : Addr} {o : HO} (h : H a = some o) : upd H a o = H := by
  funext b; unfold upd; split
  · rename_i e; rw [e, h]
  · rfl
/-- what of the text an exception's class must have -/
structure Exc (K : PySem.W.Frag) (W C : Addr) : Prop where
  ob : ∃ (nm qn : Str) (N : Addr) (bs : List Value) (sn : List Str) (sub : List Value) (ab : Bool) (col : Option Bool) (dd : Option Addr) (k0 k1 k2 k3 k5 : Option Value),
    K.lookup C = some (excClassObj nm qn C N bs (.ref W :: vBM) true sn sub ab col dd k0 k1 k2 k3 k5 xNew)
  ga : PySem.W.findIn K (.ref C) "__getattribute__" = some (some (.builtin xGa))
  gr : PySem.W.findIn K (.ref C) "__getattr__" = some none
  sa : PySem.W.findIn K (.ref C) "__setattr__" = some (some (.builtin "object.__setattr__"))
  kp : PySem.W.keepIn K (.ref C) = true
  cl : PySem.W.findIn K (.ref C) "__class__" = some (some (.builtin "object.__class__"))
theorem Exc.cls {K : PySem.W.Frag} {W C : Addr} (x : Exc K W C) : ∃ cd, PySem.W.clsIn K C = some cd ∧ cd.mro = .ref C :: .ref W :: vBM ∧ cd.hasDict = true := by
  obtain ⟨nm, qn, N, bs, sn, sub, ab, col, dd, k0, k1, k2, k3, k5, h⟩ := x.ob
  exact ⟨_, by unfold PySem.W.clsIn; rw [h], rfl, rfl⟩
theorem Exc.hd {K : PySem.W.Frag} {W C : Addr} (x : Exc K W C) : PySem.W.hasDictIn K C = true := by
  obtain ⟨cd, h1, _, h2⟩ := x.cls
  unfold PySem.W.hasDictIn; rw [h1]; exact h2
section
variable {X : Cx} {pins : List (Addr × Obj)} {σ : St} {H : Hp} {s : Shared} {W C f : Addr} {fd : FuncData} {ps : List Str} {sp : Sp} {k : Nat} {CX : CXT} {E : XK}
/-- C(..) with an __init__ of its own -/
theorem run_makeX {Q : VK} {us : List Value} {vs : List V} (M : Exc X.K W C) (hi : PySem.W.findIn X.K (.ref C) "__init__" = some (some (.ref f))) (hf : PySem.W.isFn X.K (.ref f) = true) (F : FnOk X.prog X.w X.K X.mg X.base CX k f fd ps sp) (hr : Room (k + 1) X.A)
    (hb : Binds X.K fd ps []) (hx : Passes CX X E) (I : Inv X pins σ H s) (r : Vals vs us) (hz : vs.length ≤ sizeLine)
    (h : ∀ x, H x = none → sp (.ref x :: vs) (upd H x (XO x C none true)) (fun v H2 => v = .non ∧ Q (.ref x) H2) E) : wpAny (model X.prog X.w) X.A (call (.ref C) us) (EP X pins σ Q) X.xe s := by
  have hq := h (s.heap.objs.size + 1) (I.hok.fresh (Nat.le_succ _))
  have hus : us.length ≤ sizeLine := by rw [← r.length]; exact hz
  have I2 : Inv X pins σ (upd H (s.heap.objs.size + 1) (XO (s.heap.objs.size + 1) C none true)) { s with heap := xcHeap C us s.heap } :=
    I.laid (a := s.heap.objs.size + 1) (o := XO (s.heap.objs.size + 1) C none true) (h' := xcHeap C us s.heap) (t' := s.toks) (fun b u q => xcHeap_keep q) (Nat.le_succ _) (xo_ok xcHeap_at rfl rfl fun _ => rfl)
  have r2 : Vals (V.ref (s.heap.objs.size + 1) :: vs) (Value.ref (s.heap.objs.size + 1) :: us) := .cons rfl r
  have hl : (Value.ref (s.heap.objs.size + 1) :: us ++ []).length = ps.length := by
    rw [List.append_nil, ← r2.length]; exact F.len _ _ _ _ hq
  have hb2 := hb { s with heap := xcHeap C us s.heap } (Value.ref (s.heap.objs.size + 1) :: us) I2.kIn hl
  rw [List.append_nil] at hb2
  obtain ⟨nm, qn, N, bs, sn, sub, ab, col, dd, k0, k1, k2, k3, k5, oC⟩ := M.ob
  have KI := I.kIn
  have KI2 := I2.kIn
  obtain ⟨hh, g, d, t, os⟩ := s
  refine xc_call (KI _ _ oC) hus (lk_of (PySem.W.looks_findIn KI2 hi)) (lk_of (PySem.W.bind_fn KI2 _ (beq_iff_eq.mp hf))) ?_
  refine wpAny_call (codeAny_mono (F.run _ X.stack _ _ ⟨Value.ref (hh.objs.size + 1) :: us, []⟩ (Value.ref (hh.objs.size + 1) :: us) _ _ E (hr.make C us []) (I2.env0.make C us []) hb2 r2 hq) fun r s' hq' => ?_)
  cases r with
  | error e => exact hx pins σ _ _ e s' I2 hq'
  | ok fl =>
    cases fl with
    | ret u =>
      obtain ⟨v, H', I3, rv, ev, q3⟩ := I2.after hq'
      subst ev
      exact ⟨rv, ⟨V.ref (hh.objs.size + 1), H', I3, rfl, q3⟩⟩
    | next => exact False.elim hq'
    | brk => exact False.elim hq'
    | cont => exact False.elim hq'
end
section
variable {X : Cx} {W C f : Addr} {fd : FuncData} {ps : List Str} {sp : Sp} {k : Nat} {CX : CXT} {E : XK} {x : Str} {p pos apos : Pos} {e : Expr} {es : List Expr} {t : TA}
def tMakeX (C : Addr) (sp : Sp) (E : XK) (t : TA) : TE := fun σ H Q => t σ H fun vs H1 => vs.length ≤ sizeLine ∧ ∀ x, H1 x = none → sp (.ref x :: vs) (upd H1 x (XO x C none true)) (fun v H2 => v = .non ∧ Q (.ref x) H2) E
theorem pe_makeX (M : Exc X.K W C) (hi : PySem.W.findIn X.K (.ref C) "__init__" = some (some (.ref f))) (hf : PySem.W.isFn X.K (.ref f) = true) (F : FnOk X.prog X.w X.K X.mg X.base CX k f fd ps sp) (hr : Room (k + 1) X.A) (hg : Gl X x) (hm : X.mg x = some (.ref C))
    (hb : Binds X.K fd ps []) (hx : Passes CX X E) (ha : PA X (e :: es) t) (hdb : (x == ("__debug__" : Str)) = false := by decide) (he : starEach (e :: es) X.env = (false, eval e X.env) :: starEach es X.env := by rfl) (hpl : (backTo pos (starEach es X.env)).any (·.1) = false := by rfl) :
    PE X (.Call (.Name x p) (e :: es) [] pos) (tMakeX C sp E t) := by
  intro pins s σ H Q I h
  refine wpAny_Call_Name_kw (ld_glob I hg hm ?_ hdb)
  refine PySem.W.callWith_K (h₀ := X.base) I.ok.mod.kin M.kp (thn (ha pos pins s σ H _ I h) fun us s1 ⟨vs, H1, I1, r, z, q⟩ => ⟨I1.kIn, ?_⟩) he hpl
  exact run_makeX M hi hf F hr hb hx I1 r z q
/-- W.__init__(e, text) -/
def tInitX (K : PySem.W.Frag) (W : Addr) (t : TA) : TE := fun σ H Q => t σ H fun vs H1 => ∃ (e C : Addr) (od : Option Addr) (fr : Bool) (y : V), vs = [.ref e, y] ∧ H1 e = some (XO e C od fr) ∧ Exc K W C ∧ Q .non H1
structure ExcBase (K : PySem.W.Frag) (W : Addr) : Prop where
  rd : PySem.W.readsIn K W (.type "type") = true
  ga : PySem.W.specialIn K (.ref W) "__getattribute__" = some (some (.builtin "type.__getattribute__"))
  ini : PySem.W.findCls K (.ref W) (.type "type") "__init__" = some (.val (.builtin xIni))
theorem pe_initX {pl : Sem Bool} (M : ExcBase X.K W) (hg : Gl X x) (hm : X.mg x = some (.ref W)) (ha : PA X (e :: es) t) (hdb : (x == ("__debug__" : Str)) = false := by decide)
    (he : starEach (e :: es) X.env = (false, eval e X.env) :: starEach es X.env := by rfl) (hpl : (backTo pos (starEach es X.env)).any (·.1) = false := by rfl)
    (ht : eval (.Call (.Attribute (.Name x p) "__init__" apos) (e :: es) [] pos) X.env = (do
      let ov ← eval (.Name x p) X.env
      standAt apos.atName
      let (f, first) ← holding [ov] (getMethod ov "__init__" pl)
      callWith pos f first (backTo pos (starEach (e :: es) X.env)) (backToKw pos (keywordEach [] X.env))) := by rfl) :
    PE X (.Call (.Attribute (.Name x p) "__init__" apos) (e :: es) [] pos) (tInitX X.K W t) := by
  intro pins s σ H Q I h
  refine PySem.W.methodCall_KW (pl := pl) (ld_glob I hg hm ?_ hdb) ht
  refine PySem.W.method_cls I.kIn M.ga (PySem.W.cls_value I.kIn M.rd M.ini rfl ?_)
  refine PyProof.Rows.callWith_builtin1 (thn (ha pos pins _ σ H _ (I.tok _) h) fun us s1 ⟨vs, H1, I1, r, ex, C, od, fr, y, ev, hX, hE, q⟩ => ?_) he hpl
  subst ev
  cases r with
  | cons r1 rs =>
    cases (show _ = Value.ref ex from r1)
    obtain ⟨vs, t0, he, hz, h0, h1⟩ := xo_get I1.hok hX
    obtain ⟨nm, qn, N, bs, sn, sub, ab, col, dd, k0, k1, k2, k3, k5, oC⟩ := hE.ob
    have hlen := rs.length
    have KI := I1.kIn
    obtain ⟨hh, g, d, t, os⟩ := s1
    refine xc_init (KI _ _ oC) he h0 (by rw [← hlen]; exact szn (by show 1 ≤ 1000000; decide)) fun h' hk he' => ⟨.non, _, ?_, rfl, q⟩
    have hw := I1.write (x := ex) (e := ex) (h' := h') (o := XO ex C od fr) (t' := t) (by rw [hX]; exact True.intro) (.inl rfl) (fun b u hb q => hk b u hb q) ⟨_, he'⟩
      (xo_ok (t0 := hh.objs.size) he' (by rw [Array.size_setIfInBounds]; exact hz) (by simp [hz]) fun z => by rw [Array.getElem?_setIfInBounds_ne (by decide)]; exact h1 z)
    rw [upd_self hX] at hw
    exact hw
end
end L2

set_option Elab.async false
set_option linter.all false
set_option maxRecDepth 100000
namespace L2
open PySem PySem.Spec PyProof.Rows
/-! ### f-strings: some text -/
abbrev TJ := St → Hp → Nat → VK → Prop
def PJ (X : Cx) (es : List Expr) (t : TJ) : Prop := ∀ (pins : List (Addr × Obj)) (s : Shared) (σ : St) (H : Hp) (acc : Str) (Q : VK), Inv X pins σ H s → t σ H acc.length Q →
  Joins (model X.prog X.w) X.A X.xe (evalEach es X.env) acc (fun out s1 => out.length ≤ sizeLine ∧ EP X pins σ Q (.str out s1.toks) { s1 with toks := s1.toks + 1 }) s
def jNil : TJ := fun _ H n Q => n ≤ 1000000 ∧ ∀ z, Q (.str z) H
def jCons (te : TE) (t : TJ) : TJ := fun σ H n Q => te σ H fun x H1 => ∃ y, x = .str y ∧ n + y.length ≤ 1000000 ∧ t σ H1 (n + y.length) Q
def tFs (t : TJ) : TE := fun σ H Q => t σ H 0 Q
section
variable {X : Cx} {e a b : Expr} {es : List Expr} {te : TE} {t : TJ} {pos : Pos}
theorem pj_nil : PJ X [] jNil := fun pins s σ H acc Q I h => ⟨szn h.1, .str acc, H, I.tok _, ⟨_, rfl⟩, h.2 acc⟩
theorem pj_cons (he : PE X e te) (hr : PJ X es t) (hev : evalEach (e :: es) X.env = eval e X.env :: evalEach es X.env := by rfl) : PJ X (e :: es) (jCons te t) := by
  intro pins s σ H acc Q I h
  rw [hev]
  refine thn (he pins s σ H _ I h) fun u s1 ⟨x, H1, I1, r, y, ex, hz, q⟩ => ?_
  subst ex
  obtain ⟨tk, rfl⟩ := (show ∃ tk, u = Value.str y tk from r)
  exact ⟨y, tk, rfl, szn (by rw [strLen_append]; exact hz), hr pins s1 σ H1 (acc ++ y) Q I1 (by rw [strLen_append]; exact q)⟩
theorem pe_fs (h : PJ X (a :: b :: es) t) : PE X (.JoinedStr (a :: b :: es) pos) (tFs t) := by
  intro pins s σ H Q I q
  exact wpAny_JoinedStr (h pins s σ H Str.empty Q I q)
/-- {e} -/
def tFv (te : TE) : TE := fun σ H Q => te σ H fun x H1 => (∃ i : Int, x = .int i ∧ i.natAbs.log2 < 1920 ∧ ∀ z : Str, z.length ≤ 2000 → Q (.str z) H1) ∨ ∃ y : Str, x = .str y ∧ y.length ≤ 1000000 ∧ Q (.str y) H1
theorem pe_fv (he : PE X e te) : PE X (.FormattedValue e (-1) none pos) (tFv te) := by
  intro pins s σ H Q I q
  refine wpAny_FormattedValue_plain (thn (he pins s σ H _ I q) fun u s1 ⟨x, H1, I1, r, q1⟩ => ?_)
  rcases q1 with ⟨i, rfl, hi, q1⟩ | ⟨y, rfl, hy, q1⟩
  · obtain ⟨tk, rfl⟩ := (show ∃ tk, u = Value.int i tk from r)
    refine wpAny_formatField_int hi ⟨.str (toString i), H1, (I1.tok _), ⟨_, rfl⟩, q1 _ ?_⟩
    have := int_text_length_le (k := 1920) (by decide) hi
    rw [PySem.ofString_length]; omega
  · obtain ⟨tk, rfl⟩ := (show ∃ tk, u = Value.str y tk from r)
    exact wpAny_formatField_str ⟨.str y, H1, I1, ⟨_, rfl⟩, q1⟩ ⟨.str y, H1, I1.tok _, ⟨_, rfl⟩, q1⟩ (szn hy)
end
/-- an object that lies there already is tracked from here on -/
theorem Inv.track {X : Cx} {pins : List (Addr × Obj)} {σ : St} {H : Hp} {s : Shared} {d : Addr} {o : HO} (I : Inv X pins σ H s) (n : H d = none) (h0 : X.s₀.heap.objs.size ≤ d) (hl : d ≠ X.env.locals) (hc : ∀ x c, X.env.cells.lookup x = some c → c ≠ d)
    (hp : ∀ p ∈ X.pn ++ pins, p.1 ≠ d) (ok : ObjOk X.prog X.w (upd H d o) s.heap d o) : Inv X pins σ (upd H d o) s := by
  have ne : ∀ b ob, X.s₀.heap.get? b = some ob → b ≠ d := fun b ob e => Nat.ne_of_lt (Nat.lt_of_lt_of_le (Heap.lt_size e) h0)
  refine ⟨I.ok, I.os, I.bare, ⟨I.base.keep, I.base.slot, fun b ob e q hx => ?_, I.base.there, fun b xs q => ?_, fun b ob u q => ?_, fun b ps q => ?_⟩, I.loc, I.cell, ?_, fun x c e => ?_, fun p hq => ?_, fun b u e => ?_, I.len⟩
  · rw [upd_ne (ne b ob e)]; exact I.base.free b ob e q hx
  · have q2 := I.base.tups b xs q
    rw [upd_ne (ne_of_none q2 n)]; exact q2
  · have q2 := I.base.frzs b ob u q
    rw [upd_ne (ne_of_none q2 n)]; exact q2
  · obtain ⟨more, q2⟩ := I.base.tbls b ps q
    exact ⟨more, by rw [upd_ne (ne_of_none q2 n)]; exact q2⟩
  · rw [upd_ne (Ne.symm hl)]; exact I.free
  · rw [upd_ne (hc x c e)]; exact I.freeC x c e
  · obtain ⟨e1, e2, e3⟩ := I.pin p hq
    exact ⟨e1, by rw [upd_ne (hp p hq)]; exact e2, e3⟩
  · by_cases hb : b = d
    · subst hb; rw [upd_same] at e; cases e; exact ok
    · rw [upd_ne hb] at e
      exact (I.hok b u e).stay (fun _ _ _ q => q) (fun c q => by rw [upd_ne (ne_of_none q n)]; exact q) fun c xs q => by rw [upd_ne (ne_of_none q n)]; exact q
theorem upd_comm {H : Hp} {a b : Addr} {o u : HO} (h : a ≠ b) : upd (upd H a o) b u = upd (upd H b u) a o := by
  funext c; unfold upd
  by_cases h1 : c = a
  · subst h1; simp [h]
  · simp [h1]
/-! ### attributes of an exception -/
section
variable {X : Cx} {o e value : Expr} {f : Str} {pos pos' : Pos} {ta tv : TE}
def sFldX (K : PySem.W.Frag) (ta tv : TE) (f : Str) : TS := fun D σ H => tv σ H fun y H1 => ta σ H1 fun x H2 => ∃ (a C W : Addr) (fr : Bool), x = .ref a ∧ H2 a = some (XO a C none fr) ∧ Exc K W C ∧ NoAttr K C f ∧
  ∀ d, H2 d = none → d ≠ a → D.nx σ (upd (upd H2 d (.xd [(f, y)])) a (XO a C (some d) fr))
theorem ps_fldX (ha : PE X o ta) (hv : PE X value tv) (hs : swapsWith value (some (.Attribute o f pos')) pos.line X.env = pure false) : PS X (.Assign [.Attribute o f pos'] value pos) (sFldX X.K ta tv f) := by
  intro pins s σ H D I h
  refine plainObj_wpAny_Assign_Attribute (thn (hv pins s σ H _ I h) fun u s1 ⟨y, H1, I1, ry, q⟩ => thn (ha pins s1 σ H1 _ I1 q) fun ov s2 ⟨x, H2, I2, rx, a, C, W, fr, ex, ea, M, n, q2⟩ => ?_) hs
  subst ex
  obtain rfl : ov = Value.ref a := rx
  obtain ⟨vs, t0, he, hz, h0, h1⟩ := xo_get I2.hok ea
  obtain ⟨nm, qn, N, bs, sn, sub, ab, col, dd, k0, k1, k2, k3, k5, oC⟩ := M.ob
  have KI := I2.kIn
  have hfr : H2 s2.heap.objs.size = none := I2.hok.fresh (Nat.le_refl _)
  have hlt := Heap.lt_size he
  obtain ⟨hh, g, d, t, os⟩ := s2
  refine xc_setattr (KI _ _ oC) he rfl rfl rfl rfl (lk_of (PySem.W.looks_findIn KI M.sa)) (lk_of (PySem.W.looks_findIn KI n)) fun h' tk' e1 e2 e3 => ⟨σ, _, ?_, q2 hh.objs.size hfr (Nat.ne_of_gt hlt)⟩
  have hlt2 : a ≠ hh.objs.size := Nat.ne_of_lt hlt
  have hw := I2.write (x := a) (e := a) (h' := h') (o := XO a C (some hh.objs.size) fr) (t' := tk') (by rw [ea]; exact True.intro) (.inl rfl) (fun b u hb q => e3 b u hb q) ⟨_, e1⟩ (xo_ok e1 hz h0 h1)
  have n2 : (upd H2 a (XO a C (some hh.objs.size) fr)) hh.objs.size = none := by rw [upd_ne (Ne.symm hlt2)]; exact hfr
  have ht := hw.track (d := hh.objs.size) (o := .xd [(f, y)]) n2 I2.sz (Nat.ne_of_gt I2.lt) (fun x c e => ?_) (fun p hp => ?_) ⟨_, e2, fun g => ?_⟩
  · rw [upd_comm hlt2] at ht; exact ht
  · obtain ⟨v, o, ho, _⟩ := I2.cell x c e
    exact Nat.ne_of_lt (Heap.lt_size ho)
  · obtain ⟨e1, _⟩ := I2.pin p hp
    exact Nat.ne_of_lt (Heap.lt_size e1)
  · by_cases hg : g = f
    · subst hg
      have : List.lookup g [(g, y)] = some y := by simp [List.lookup]
      rw [this, if_pos rfl]; exact ry
    · have : List.lookup g [(f, y)] = none := by
        have hb : (g == f) = false := beq_eq_false_iff_ne.mpr hg
        simp [List.lookup, hb]
      rw [this, if_neg hg]; exact True.intro
/-- e.f of an exception -/
def tFldX (K : PySem.W.Frag) (ta : TE) (f : Str) : TE := fun σ H Q => ta σ H fun x H1 => ∃ (a C W d : Addr) (fr : Bool) (fs : List (Str × V)) (v : V), x = .ref a ∧ H1 a = some (XO a C (some d) fr) ∧ H1 d = some (.xd fs) ∧ Exc K W C ∧ NoAttr K C f ∧ fs.lookup f = some v ∧ Q v H1
theorem pe_fldX {K : PySem.W.Frag} (he : PE X e ta) (hb : attributeBase e f X.env (eval e X.env) = eval e X.env) (hK : X.K = K := by rfl) : PE X (.Attribute e f pos) (tFldX K ta f) := by
  subst hK
  intro pins s σ H Q I h
  refine attr_of hb (thn (he pins s σ H _ I h) fun u s1 ⟨x, H1, I1, rx, a, C, W, d, fr, fs, v, ex, ea, ed, M, n, l, q⟩ => ?_)
  subst ex
  obtain rfl : u = Value.ref a := rx
  obtain ⟨vs, t0, he, hz, h0, h1⟩ := xo_get I1.hok ea
  obtain ⟨mA, nA, rA⟩ := (show ∃ mA, s1.heap.Ns1 d mA ∧ ∀ f, RelO (fs.lookup f) (mA f) from I1.hok d _ ed)
  obtain ⟨od, ho, hl⟩ := lookIn_ns nA
  obtain ⟨u, hu, ru⟩ := RelO.some_of (v := v) (o := mA f) (by rw [← l]; exact rA f)
  have J : PySem.W.InstAt s1.heap a ⟨.ref C, some d, .fields vs, #[]⟩ C (some od) := ⟨he, rfl, rfl, ho⟩
  obtain ⟨nm, qn, N, bs, sn, sub, ab, col, dd, k0, k1, k2, k3, k5, oC⟩ := M.ob
  exact xg_value I1.kIn J oC M.ga M.gr (PySem.W.findObj_own M.hd n rfl (by rw [hl, hu])) (handed_of ru) ⟨v, H1, I1.tok _, ru, q⟩
end
end L2

set_option Elab.async false
set_option linter.all false
set_option maxRecDepth 100000
namespace L2
open PySem PySem.Spec PyProof.Rows
/-! ### what an exception under way leaves as it was -/
theorem xo_ne {H : Hp} {x b C : Addr} {od : Option Addr} {fr : Bool} (h : H x = some (XO x C od fr)) (n : H b = none) : b ≠ x := fun e => by rw [e, h] at n; cases n
theorem un_fly {fs fs' : List Addr} {H₀ H : Hp} {h₀ h h' base : Heap} {l : List Env} {x C : Addr} {od : Option Addr} {fl : Value} {fr : Bool} (U : Un fs' [] H₀ H h₀ h) (hfs : ∀ b o, h₀.get? b = some o → b ∈ fs' → b ∈ fs)
    (hX : H x = some (XO x C od fr)) (hb : ∀ b o o', h₀.get? b = some o' → h.get? b = some o → b ∉ fs → b ≠ x → base.get? b = some o) (F : Fl base l x C od fl h') (us : h.UpToSlots h')
    (hf : ∀ b ∈ fs, ∀ o, h.get? b = some o → ∀ vs, o.data ≠ .fields vs) : Un fs [] H₀ (upd H x (XO x C od false)) h₀ h' := by
  have noE : ∀ b : Addr, b ∉ ([] : List Addr) := fun b z => by simp at z
  refine ⟨fun b o q n hn _ => ?_, fun b o q n hn _ => ?_, fun b o q n _ => ?_, fun b o q _ => ?_, fun b xs q => ?_, fun b o u q => ?_, fun b ps q => ?_⟩
  · have e1 := U.keep b o q n (fun z => hn (hfs b o q z)) (noE b)
    exact F.1 b o (hb b o o q e1 hn (xo_ne hX (U.free b o q n (noE b))))
  · by_cases hm : b ∈ fs'
    · obtain ⟨sl, e1⟩ := U.slot b o q n hm (noE b)
      obtain ⟨sl2, e2⟩ := us b _ e1 (hf b hn _ e1)
      exact ⟨sl2, e2⟩
    · have e1 := U.keep b o q n hm (noE b)
      obtain ⟨sl2, e2⟩ := us b _ e1 (hf b hn _ e1)
      exact ⟨sl2, e2⟩
  · have n1 := U.free b o q n (noE b)
    rw [upd_ne (xo_ne hX n1)]; exact n1
  · obtain ⟨o1, e1⟩ := U.there b o q (noE b)
    by_cases hm : b ∈ fs
    · obtain ⟨sl, e2⟩ := us b _ e1 (hf b hm _ e1)
      exact ⟨_, e2⟩
    · by_cases hx : b = x
      · obtain ⟨vs, t0, e2, _⟩ := F.at
        exact ⟨_, by rw [hx]; exact e2⟩
      · exact ⟨o1, F.1 b o1 (hb b o1 o q e1 hm hx)⟩
  · have n1 := U.tups b xs q
    rw [upd_ne (ne_of n1 hX (by intro z; cases z))]; exact n1
  · have n1 := U.frzs b o u q
    rw [upd_ne (ne_of n1 hX (by intro z; cases z))]; exact n1
  · obtain ⟨more, n1⟩ := U.tbls b ps q
    exact ⟨more, by rw [upd_ne (ne_of n1 hX (by intro z; cases z))]; exact n1⟩
theorem objThere {P : Program} {w : World} {H : Hp} {h : Heap} {a : Addr} {o : HO} (x : ObjOk P w H h a o) : ∃ ob, h.get? a = some ob := by
  cases o with
  | lst xs => obtain ⟨_, _, _, _, e⟩ := x; exact ⟨_, e⟩
  | tup xs => obtain ⟨_, _, _, o, e, _⟩ := x; exact ⟨_, e⟩
  | dK kvs => obtain ⟨_, _, _, _, o, _, _, e, _⟩ := x; exact ⟨_, e⟩
  | dT kvs => obtain ⟨_, _, _, _, o, _, _, e, _⟩ := x; exact ⟨_, e⟩
  | set S n => obtain ⟨o, _, _, _, e, _⟩ := x; exact ⟨_, e⟩
  | ins C dx fs => obtain ⟨_, _, _, e, _⟩ := x; exact ⟨_, e⟩
  | own y => exact x
  | xd fs => obtain ⟨_, ⟨_, _, _, e, _⟩, _⟩ := x; exact ⟨_, e⟩
  | rng lo hi => obtain ⟨_, _, _, e⟩ := x; exact ⟨_, e⟩
  | frz ob u => obtain ⟨e, _⟩ := x; exact ⟨_, e⟩
  | tbl ps => exact ⟨_, x⟩
  | met f y => exact ⟨_, x⟩
  | ext φ => obtain ⟨_, e, _⟩ := x; exact e
theorem hok_fly {P : Program} {w : World} {H : Hp} {h h' base : Heap} {l : List Env} {x C : Addr} {od : Option Addr} {fl : Value} {fr : Bool} (ok : HOk P w H h) (hX : H x = some (XO x C od fr))
    (ht : ∀ a u o, H a = some u → a ≠ x → h.get? a = some o → base.get? a = some o) (F : Fl base l x C od fl h') : HOk P w (upd H x (XO x C od false)) h' := fun a u e => by
  by_cases ha : a = x
  · subst ha
    rw [upd_same] at e; cases e
    obtain ⟨vs, t0, e2, hz, h0⟩ := F.at
    exact xo_ok e2 hz h0 fun z => by cases z
  · rw [upd_ne ha] at e
    refine (ok a u e).stay (fun b v hb q => ?_) (fun b q => ?_) fun b xs q => ?_
    · have hbx : b ≠ x := by
        rcases hb with rfl | hb
        · exact ha
        · exact ne_of hb hX (by intro z; cases z)
      rcases hb with rfl | hb
      · exact F.1 _ _ (ht _ _ _ e hbx q)
      · exact F.1 _ _ (ht _ _ _ hb hbx q)
    · rw [upd_ne (ne_of q hX (by intro z; cases z))]; exact q
    · rw [upd_ne (ne_of q hX (by intro z; cases z))]; exact q
/-! ### how an own exception lies behind a call -/
def CXx (P : Program) (w : World) : CXT := fun outer H s E e s' => ∃ (x C : Addr) (od : Option Addr) (H' : Hp) (base : Heap), e = .ref x ∧ s'.os = s.os ∧ AllBare s'.gens ∧ Un (frs outer) [] H H' s.heap s'.heap ∧ HOk P w H' s'.heap ∧
  H' x = some (XO x C od false) ∧ Fl base outer x C od .none s'.heap ∧ (∀ a u o, H' a = some u → a ≠ x → s'.heap.get? a = some o → base.get? a = some o) ∧
  (∀ b o o', s.heap.get? b = some o' → s'.heap.get? b = some o → b ∉ frs outer → b ≠ x → base.get? b = some o) ∧ E (.ref x) od H'
/-- what is thrown here reaches the wish -/
def Thr (X : Cx) (E : XK) : Prop := ∀ (pins : List (Addr × Obj)) (σ : St) (H : Hp) (s : Shared) (x C : Addr) (od : Option Addr), Inv X pins σ H s → H x = some (XO x C od true) → E (.ref x) od (upd H x (XO x C od false)) → X.xe (.ref x) s
section
variable {X : Cx} {pins : List (Addr × Obj)} {σ : St} {H : Hp} {s : Shared}
theorem Inv.below (I : Inv X pins σ H s) {b : Addr} {o : Obj} (e : X.s₀.heap.get? b = some o) : b ≠ X.env.locals := Nat.ne_of_lt (Nat.lt_of_lt_of_le (Heap.lt_size e) I.ok.above)
/-- the heap without the frames and the exception -/
theorem fly_base (I : Inv X pins σ H s) {x C : Addr} {od : Option Addr} {fr : Bool} (hX : H x = some (XO x C od fr)) :
    ∃ base : Heap, base.StaysIn s.heap ∧ base.get? x = none ∧ s.heap.FunFrames base X.stack ∧ ∀ b o, s.heap.get? b = some o → b ∉ frs X.stack → b ≠ x → base.get? b = some o := by
  refine ⟨PySem.W.hideAll s.heap (x :: frs X.stack), fun b o e => PySem.W.of_hideAll _ e, PySem.W.hideAll_none _ List.mem_cons_self, PySem.W.funFrames_hide I.stack fun env he a hf => List.mem_cons_of_mem _ (List.mem_filterMap.mpr ⟨env, he, hf⟩), fun b o e hn hx => PySem.W.hideAll_get _ e fun hm => ?_⟩
  rcases List.mem_cons.mp hm with z | z
  · exact hx z
  · exact hn z
theorem frame_data (I : Inv X pins σ H s) : ∀ b ∈ frs X.stack, ∀ o, s.heap.get? b = some o → ∀ vs, o.data ≠ .fields vs := fun b hb o e vs => by
  obtain ⟨_, o2, e2, h2⟩ := I.stack.mem hb
  rw [e] at e2; cases e2; exact h2 vs
end
section
variable {CX : CXT} {P : Program} {w : World} {K : PySem.W.Frag} {mg : Str → Option Value} {base : Heap} {N : List Str} {qual : Str} {scope : Scope} {f : Addr} {cd : Value} {A : Around} {outer : List Env} {s : Shared} {H : Hp} {E : XK}
theorem thr_body : Thr (cxOf (CXx P w) P w K mg base N qual scope f cd A outer s H E) E := fun pins σ H1 s1 x C od I hX hE => by
  obtain ⟨B, b1, b2, b3, b4⟩ := fly_base I hX
  obtain ⟨vs, t0, e0, hz, h0, h1⟩ := xo_get I.hok hX
  refine fl_leave0 (base := B) (outer := outer) (L := s.heap.objs.size) (I.ok.frames) b3 rfl b1 b2 e0 hz h0 (h1 rfl) fun h' x1 u1 => ?_
  have ht : ∀ a u o, H1 a = some u → a ≠ x → s1.heap.get? a = some o → B.get? a = some o := fun a u o q hx e => b4 a o e (fun z => by rw [I.stkFree a z] at q; cases q) hx
  refine ⟨x, C, od, upd H1 x (XO x C od false), B, rfl, I.os, I.bare, un_fly (fs := frs outer) I.base (fun _ _ _ z => z) hX (fun b o o' q e hn hx => b4 b o e (fun z => ?_) hx) x1 u1 (fun b hb => frame_data I b (List.mem_filterMap.mpr ?_)), hok_fly I.hok hX ht x1, upd_same, x1, fun a u o q hx e => ?_, fun b o o' q e hn hx => ?_, hE⟩
  · rcases List.mem_cons.mp (I.stkSub b z) with z | z
    · exact I.below q z
    · exact hn z
  · obtain ⟨env, he, hf⟩ := List.mem_filterMap.mp hb
    exact ⟨env, List.mem_cons_of_mem _ he, hf⟩
  · rw [upd_ne hx] at q
    obtain ⟨ob, e2⟩ := objThere (I.hok a u q)
    have e3 := ht a u ob q hx e2
    have e4 := x1.1 a ob e3
    have e5 : some o = some ob := e.symm.trans e4
    cases e5; exact e3
  · obtain ⟨o2, e2⟩ := I.base.there b o' q (by show b ∉ ([] : List Addr); simp)
    have e3 := b4 b o2 e2 (fun z => by
      rcases List.mem_cons.mp (I.stkSub b z) with z | z
      · exact I.below q z
      · exact hn z) hx
    have e4 := x1.1 b o2 e3
    have e5 : some o = some o2 := e.symm.trans e4
    cases e5; exact e3
theorem pass_body {E' : XK} (hEE : ∀ v od H, E' v od H → E v od H) : Passes (CXx P w) (cxOf (CXx P w) P w K mg base N qual scope f cd A outer s H E) E' := fun pins σ H1 s1 e s2 I h => by
  obtain ⟨x, C, od, H2, B, rfl, os, bare, U, ok, hX, F, ht, hb, hE⟩ := h
  refine fl_leave (base := B) (outer := outer) (L := s.heap.objs.size) I.ok.frames rfl F fun h' x1 u1 => ?_
  have noE : ∀ b : Addr, b ∉ ([] : List Addr) := fun b z => by simp at z
  have hst : ∀ b o, s.heap.get? b = some o → b ∈ frs (cxOf (CXx P w) P w K mg base N qual scope f cd A outer s H E).stack → b ∈ frs outer := fun b o q z => by
    rcases List.mem_cons.mp (I.stkSub b z) with z | z
    · exact absurd z (I.below q)
    · exact z
  have hU : Un (frs (cxOf (CXx P w) P w K mg base N qual scope f cd A outer s H E).stack) [] H H2 s.heap s2.heap :=
    (I.base.mono (fun b hb => by obtain ⟨env, he, hf⟩ := List.mem_filterMap.mp hb; exact List.mem_filterMap.mpr ⟨env, List.mem_cons_of_mem _ he, hf⟩) (fun b z => z)).trans U
  have hnew := un_fly (fs := frs outer) hU hst hX (fun b o o' q e hn hx => ?_) x1 u1 (fun b hb o q => ?_)
  rw [upd_self hX] at hnew
  have hk2 := hok_fly ok hX ht x1
  rw [upd_self hX] at hk2
  refine ⟨x, C, od, H2, B, rfl, os.trans I.os, bare, hnew, hk2, hX, x1, fun a u o q hx e => ?_, fun b o o' q e hn hx => ?_, hEE _ _ _ hE⟩
  · obtain ⟨ob, e2⟩ := objThere (ok a u q)
    have e3 := ht a u ob q hx e2
    have e4 := x1.1 a ob e3
    have e5 : some o = some ob := e.symm.trans e4
    cases e5; exact e3
  · obtain ⟨o2, e2⟩ := I.base.there b o' q (noE b)
    obtain ⟨o3, e3⟩ := U.there b o2 e2 (noE b)
    have e4 := hb b o3 o2 e2 e3 (fun z => hn (hst b o' q z)) hx
    have e5 := x1.1 b o3 e4
    have e6 : some o = some o3 := e.symm.trans e5
    cases e6; exact e4
  · obtain ⟨o2, e2⟩ := I.base.there b o' q (noE b)
    exact hb b o o2 e2 e (fun z => hn (hst b o' q z)) hx
  · have hm : b ∈ (outer).filterMap (·.frame) := hb
    obtain ⟨_, o2, e2, h2⟩ := F.2.2.1.2.2.mem hm
    rw [q] at e2; cases e2; exact h2
end
/-! ### raise -/
section
variable {X : Cx} {e : Expr} {te : TE} {pos : Pos} {E : XK}
def tRaise (K : PySem.W.Frag) (E : XK) (te : TE) : TS := fun _ σ H => te σ H fun v H1 => ∃ (x C W : Addr) (od : Option Addr), v = .ref x ∧ H1 x = some (XO x C od true) ∧ Exc K W C ∧ E (.ref x) od (upd H1 x (XO x C od false))
theorem ps_raise (hc : X.calm = true) (ht : Thr X E) (he : PE X e te) : PS X (.Raise (some e) none pos) (tRaise X.K E te) := by
  intro pins s σ H D I h
  refine xc_raise (I.ok.hd hc) (thn (he pins s σ H _ I h) fun u s1 ⟨v, H1, I1, r, x, C, W, od, ev, hX, M, q⟩ => ?_)
  subst ev
  obtain rfl : u = Value.ref x := r
  obtain ⟨vs, t0, e0, hz, h0, h1⟩ := xo_get I1.hok hX
  obtain ⟨nm, qn, N, bs, sn, sub, ab, col, dd, k0, k1, k2, k3, k5, oC⟩ := M.ob
  exact ⟨x, od, vs, rfl, ⟨nm, qn, C, N, bs, W, true, sn, sub, ab, col, dd, k0, k1, k2, k3, k5, I1.kIn _ _ oC, e0⟩, h1 rfl, ht pins σ H1 s1 x C od I1 hX q⟩
end
end L2

set_option Elab.async false
set_option linter.all false
set_option maxRecDepth 100000
namespace L2
open PySem PySem.Spec PyProof.Rows
section
variable {X : Cx} {pins : List (Addr × Obj)} {σ : St} {H : Hp} {s : Shared}
/-- a name is unbound -/
theorem unbind_ok {M : Model} {A : Around} {E : Value → Shared → Prop} {i : Nat} {x : Str} {pos : Pos} {Q : Unit → Shared → Prop} (I : Inv X pins σ H s) (hN : X.N.Nodup) (hi : X.N[i]? = some x) (hk : X.env.scope.names.lookup x = some .local)
    (h : ∀ s', Inv X pins (σ.set i none) H s' → Q () s') : wpAny M A (do bindName X.env x .none; unbindBehindTheSuite X.env x pos) Q E s := by
  refine wpAny_bind (wpAny_bindName (store_ok (v := .non) (u := .none) I hN hi (.inl hk) rfl (fun s1 I1 => ?_) (.inr hk)))
  have hiσ : i < σ.length := by rw [I.len]; exact (List.getElem?_eq_some_iff.mp hi).1
  obtain ⟨m, hn, hl⟩ := id I1.loc
  have hcls : (X.env.scope.kind == .class || (X.env.scope.kind == .module && X.env.locals != X.env.globals)) = false := by rw [I1.ok.kind]; rfl
  have cne := I1.cne
  obtain ⟨u0, r0, q0⟩ := hl i x .non hi (by rw [List.getElem?_set_self hiσ]) (.inl hk)
  have hv : m x = some u0 := by
    rcases q0 with ⟨_, e⟩ | ⟨k, _⟩
    · exact e
    · have k' : X.env.scope.names.lookup x = some .cell ∨ X.env.scope.names.lookup x = some .free := k
      rcases k' with z | z <;> (rw [hk] at z; cases z)
  unfold unbindBehindTheSuite
  refine wpAny_onRaise (wpAny_unbindName_local hk hn hv hcls fun h' u hn' hs => h _ ?_)
  obtain ⟨oL, _, _, hoL, _⟩ := id hn
  have tracked : HOk X.prog X.w H h' := fun b ob e => by
    refine (I1.hok b ob e).stay (fun c w' hc q => (hs.2 c ?_).trans q) (fun _ q => q) fun _ _ q => q
    rintro rfl
    rcases hc with rfl | hc
    · rw [I1.free] at e; cases e
    · rw [I1.free] at hc; cases hc
  refine ⟨I1.ok, I1.os, I1.bare, ⟨fun b o e n hb hx => ?_, fun b o e n hb hx => ?_, I1.base.free, fun b o e hx => ?_, I1.base.tups, I1.base.frzs, I1.base.tbls⟩, ⟨_, hn', fun j y v' e1 e2 e3 => ?_⟩, fun y c e => ?_, I1.free, I1.freeC, fun p hp => ?_, tracked, by simpa using I.len⟩
  · exact (hs.2 b (I1.below e)).trans (I1.base.keep b o e n hb hx)
  · obtain ⟨sl, e1⟩ := I1.base.slot b o e n hb hx
    exact ⟨sl, (hs.2 b (I1.below e)).trans e1⟩
  · obtain ⟨o', e1⟩ := I1.base.there b o e hx
    exact ⟨o', (hs.2 b (I1.below e)).trans e1⟩
  · by_cases hj : j = i
    · subst hj
      rw [List.getElem?_set_self hiσ] at e2
      cases e2
    · rw [List.getElem?_set_ne (Ne.symm hj)] at e2
      obtain ⟨u', r', q⟩ := hl j y v' e1 (by rw [List.getElem?_set_ne (Ne.symm hj)]; exact e2) e3
      refine ⟨u', r', ?_⟩
      rcases q with ⟨k, e⟩ | ⟨k, c, e, z⟩
      · refine .inl ⟨k, ?_⟩
        have : y ≠ x := fun e => hj (nodup_ix hN e1 (e ▸ hi))
        simp [this, e]
      · exact .inr ⟨k, c, e, z.sameBut hs (cne y c e)⟩
  · obtain ⟨w', z⟩ := I1.cell y c e
    exact ⟨w', z.sameBut hs (cne y c e)⟩
  · obtain ⟨e, n, ne, nf, d⟩ := I1.pin p hp
    exact ⟨(hs.2 p.1 ne).trans e, n, ne, nf, d⟩
/-- within an except suite -/
abbrev Cx.marked (X : Cx) (x : Addr) : Cx := { X with A := X.A.mark (some (.ref x)), calm := false, xe := fun _ _ => False }
theorem Inv.mark (I : Inv X pins σ H s) (x : Addr) : Inv (X.marked x) pins σ H s :=
  ⟨⟨I.ok.mod, I.ok.kind, I.ok.glob, I.ok.blt, I.ok.above, I.ok.inj, I.ok.has, I.ok.cab, (fun z => nomatch z), I.ok.frames, I.ok.stk, I.ok.exf, I.ok.bs, I.ok.bsz, I.ok.noex, I.ok.exfs, I.ok.funs, I.ok.frf⟩, I.os, I.bare, I.base, I.loc, I.cell, I.free, I.freeC, I.pin, I.hok, I.len⟩
theorem Inv.unmark (I0 : X.Ok) {x : Addr} (I : Inv (X.marked x) pins σ H s) : Inv X pins σ H s := ⟨I0, I.os, I.bare, I.base, I.loc, I.cell, I.free, I.freeC, I.pin, I.hok, I.len⟩
/-- within a try: what is pinned stays pinned -/
abbrev Cx.tried (X : Cx) (pn : List (Addr × Obj)) (xe : Value → Shared → Prop) : Cx := { X with pn := pn, xe := xe }
theorem Inv.try_ (I : Inv X pins σ H s) (xe : Value → Shared → Prop) : Inv (X.tried (X.pn ++ pins) xe) [] σ H s :=
  ⟨⟨I.ok.mod, I.ok.kind, I.ok.glob, I.ok.blt, I.ok.above, I.ok.inj, I.ok.has, I.ok.cab, I.ok.hd, I.ok.frames, I.ok.stk, I.ok.exf, I.ok.bs, I.ok.bsz, I.ok.noex, I.ok.exfs, I.ok.funs, I.ok.frf⟩, I.os, I.bare, I.base, I.loc, I.cell, I.free, I.freeC, fun p hp => I.pin p (by simpa using hp), I.hok, I.len⟩
theorem Inv.untry (I0 : X.Ok) {xe : Value → Shared → Prop} {pins' : List (Addr × Obj)} (I : Inv (X.tried (X.pn ++ pins) xe) pins' σ H s) : Inv X pins σ H s :=
  ⟨I0, I.os, I.bare, I.base, I.loc, I.cell, I.free, I.freeC, fun p hp => I.pin p (List.mem_append_left _ hp), I.hok, I.len⟩
end
section
variable {X : Cx} {EX : XK} {W : Addr} {Wn en : Str} {i : Nat} {body suite : List Stmt} {b0 : Stmt} {tb ts : TS} {wp hpos pos : Pos}
/-- the base class of exceptions, caught -/
structure ExcW (K : PySem.W.Frag) (W : Addr) : Prop where
  ob : ∃ (nm qn : Str) (N : Addr) (bs : List Value) (hd : Bool) (sn : List Str) (sub : List Value) (ab : Bool) (col : Option Bool) (dd : Option Addr) (k0 k1 k2 k3 k5 : Option Value) (nw : String),
    K.lookup W = some (excClassObj nm qn W N bs vBM hd sn sub ab col dd k0 k1 k2 k3 k5 nw)
end
end L2

set_option Elab.async false
set_option linter.all false
set_option maxRecDepth 100000
namespace L2
open PySem PySem.Spec PyProof.Rows
/-! ### isinstance of an exception -/
theorem cls_get_ : ∀ K : PySem.W.Frag, PySem.W.specialIn K (.builtin "object.__class__") "__get__" = some (some (.builtin "getset_descriptor.__get__")) := fun K => by kernel_rfl
theorem cls_set_ : ∀ K : PySem.W.Frag, PySem.W.takesIn K (.builtin "object.__class__") = some true := fun K => by kernel_rfl
section
variable {K : PySem.W.Frag} {x D W : Addr} {ox : Obj} {odo : Option Obj}
theorem Exc.mro (M : Exc K W D) (v : Value) : PySem.W.mroIn K D v = some ((Value.ref D :: .ref W :: vBM).contains v) := by
  obtain ⟨cd, h1, h2, _⟩ := M.cls
  unfold PySem.W.mroIn
  rw [h1, Option.bind_some, h2]; rfl
theorem Exc.ty (M : Exc K W D) : PySem.W.typeIn K (.ref D) = some (.type "type") := by
  obtain ⟨nm, qn, N, bs, sn, sub, ab, col, dd, k0, k1, k2, k3, k5, h⟩ := M.ob
  show (K.lookup D).map (·.cls) = _
  rw [h]; rfl
theorem kitx_x (M : Exc K W D) : PySem.W.KitX K (.ref x) (.ref D) (fun h => PySem.W.InstAt h x ox D odo) where
  ty := fun _ _ _ I => I.type
  it := fun _ _ X _ => by
    obtain ⟨nm, qn, N, bs, sn, sub, ab, col, dd, k0, k1, k2, k3, k5, ho⟩ := M.ob
    intro A' Q' E' s' k q
    unfold isType loadHead
    exact wpAny_bind (wpAny_loadPart (k _ _ (X _ _ ho)) (wpAny_pure q))
  ne := fun h tp dd its n sl X htp => by
    obtain ⟨nm, qn, N, bs, sn, sub, ab, col, dd, k0, k1, k2, k3, k5, ho⟩ := M.ob
    refine Bool.eq_false_iff.mpr fun q => ?_
    have e : D = tp := Value.ref.inj (beq_iff_eq.mp q)
    subst e
    have z := congrArg (Option.map Obj.cls) ((X _ _ ho).symm.trans htp)
    have z2 : (some (Value.type "type") : Option Value) = some (Value.type "tuple") := z
    exact absurd z2 (by decide)
  ca := fun {prog w A E Q s} X I k => by
    obtain ⟨cd, h1, _, _⟩ := M.cls
    have hf : PySem.W.findObj K D odo "__class__" = some (.bind (.builtin "getset_descriptor.__get__") (.builtin "object.__class__")) := by
      unfold PySem.W.findObj
      rw [h1, Option.bind_some, M.cl, Option.bind_some]
      simp [cls_get_ K, cls_set_ K]
    obtain ⟨nm, qn, N, bs, sn, sub, ab, col, dd, k0, k1, k2, k3, k5, oC⟩ := M.ob
    exact xg_class X I oC M.ga M.gr hf (M.mro _) k
theorem kit_self (M : Exc K W D) : PySem.W.kitOne K (.ref D) (.ref D) = some true := by unfold PySem.W.kitOne; rw [if_pos (by simp)]
theorem kit_other {C : Addr} (M : Exc K W D) (M2 : Exc K W C) (h1 : D ≠ C) (h2 : C ≠ W) : PySem.W.kitOne K (.ref D) (.ref C) = some false := by
  have e : ¬ ((Value.ref D == Value.ref C) = true) := fun z => h1 (Value.ref.inj (beq_iff_eq.mp z))
  unfold PySem.W.kitOne
  rw [if_neg e]
  obtain ⟨cd, g1, _, _⟩ := M2.cls
  show (if ((PySem.W.clsIn K C).isSome && PySem.W.typeIn K (.ref C) == some (.type "type")) = true then PySem.W.mroIn K D (.ref C) else none) = some false
  rw [g1, M2.ty, if_pos (by simp), M.mro]
  congr 1
  have a1 : (Value.ref D == Value.ref C) = false := by simpa using h1
  have a2 : (Value.ref W == Value.ref C) = false := beq_eq_false_iff_ne.mpr fun z => h2 (Value.ref.inj z).symm
  have a3 : (Value.ref C == Value.ref D) = false := beq_eq_false_iff_ne.mpr fun z => h1 (Value.ref.inj z).symm
  have a4 : (Value.ref C == Value.ref W) = false := beq_eq_false_iff_ne.mpr fun z => h2 (Value.ref.inj z)
  rw [List.contains_cons, List.contains_cons, a3, a4]; rfl
theorem kit_ve (M : Exc K W D) : PySem.W.kitOne K (.ref D) (.type "ValueError") = some true := by
  unfold PySem.W.kitOne
  rw [if_neg (by simp)]
  show (if PySem.W.kitMeta "ValueError" = true then PySem.W.mroIn K D (.type "ValueError") else none) = some true
  rw [if_pos (by decide +kernel), M.mro]
  congr 1
end
def fIsiX (K : PySem.W.Frag) : List V → Hp → VK → Prop := fun xs H Q => ∃ (e C W : Addr) (od : Option Addr) (fr : Bool) (c : V) (cv : Value) (b : Bool), xs = [.ref e, c] ∧ H e = some (XO e C od fr) ∧ (∀ d, od = some d → ∃ fs, H d = some (.xd fs)) ∧ Exc K W C ∧ (∀ u, RelV c u → u = cv) ∧
  PySem.W.kitOne K (.ref C) cv = some b ∧ Q (.bl b) H
theorem c_isiX {X : Cx} {K : PySem.W.Frag} (hK : X.K = K := by rfl) : CallR X (.builtin "isinstance") (fIsiX K) := by
  subst hK
  rintro pins s σ H xs us Q I rs ⟨e, C, W, od, fr, c, cv, b, rfl, hX, hd, M, rc, hk, q⟩
  cases rs with
  | cons r1 rs =>
    cases rs with
    | cons r2 rs =>
      cases rs
      cases (show _ = Value.ref e from r1)
      cases rc _ r2
      obtain ⟨vs, t0, he, hz, h0, h1⟩ := xo_get I.hok hX
      have J : ∃ odo, PySem.W.InstAt s.heap e ⟨.ref C, od, .fields vs, #[]⟩ C odo := by
        cases od with
        | none => exact ⟨none, he, rfl, rfl, True.intro⟩
        | some d =>
          obtain ⟨fs, hf⟩ := hd d rfl
          obtain ⟨ob, ho⟩ := objThere (I.hok d _ hf)
          exact ⟨some ob, he, rfl, rfl, ho⟩
      obtain ⟨odo, J⟩ := J
      exact PySem.W.kia_one (kitx_x M) I.kIn J hk (fun z => nomatch z) fun tk => ⟨.bl b, H, I.tok _, rfl, q⟩
/-! ### defs that raise -/
structure DnX (P : Program) (w : World) (K : PySem.W.Frag) (mg : Str → Option Value) (base : Heap) (x : Str) (k : Nat) (ps : List Str) (sp : Sp) : Prop where
  ex : ∃ (f : Addr) (fd : FuncData), mg x = some (.ref f) ∧ PySem.W.keepIn K (.ref f) = true ∧ Binds K fd ps [] ∧ FnOk P w K mg base (CXx P w) k f fd ps sp
theorem pe_callX {X : Cx} {x : Str} {k : Nat} {ps : List Str} {sp : Sp} {e : Expr} {es : List Expr} {t : TA} {p pos : Pos} {E : XK} (D : DnX X.prog X.w X.K X.mg X.base x k ps sp) (hr : Room k X.A) (hg : Gl X x) (hx : Passes (CXx X.prog X.w) X E) (ha : PA X (e :: es) t)
    (hdb : (x == ("__debug__" : Str)) = false := by decide) (he : starEach (e :: es) X.env = (false, eval e X.env) :: starEach es X.env := by rfl) (hpl : (backTo pos (starEach es X.env)).any (·.1) = false := by rfl) : PE X (.Call (.Name x p) (e :: es) [] pos) (tCall sp [] E t) := by
  obtain ⟨f, fd, hm, hk, hb, F⟩ := D.ex
  exact pe_call F hr hg hm hk hb .nil hx ha hdb he hpl
theorem Fun.okX {P : Program} {w : World} {K : PySem.W.Frag} {mg : Str → Option Value} {base : Heap} {x qual : Str} {st : Stmt} {f : Addr} {fd : FuncData} {N ps : List Str} {k : Nat} {sp : Sp} (F : Fun K x qual st f fd) (S : FnScope N ps (defScope st)) (len : ∀ vs H Q E, sp vs H Q E → vs.length = ps.length)
    (hbody : ∀ (cdv : Value) (A : Around) (outer : List Env) (s : Shared) (H : Hp) (vs : List V) (Q : VK) (E : XK), Room k (A.deeper (envOfC qual (defScope st) s.heap.objs.size f cdv)) → sp vs H Q E →
      ∃ t, PSs (cxOf (CXx P w) P w K mg base N qual (defScope st) f cdv A outer s H E) (defBody st) t ∧ t { nx := fun _ H' => Q .non H', rt := Q } (start N vs) H) : FnOk P w K mg base (CXx P w) (k + 1) f fd ps sp := by
  obtain ⟨oc, od, kV, doc, pm, an, cdv, ct, osl, rfl, lk, hcd⟩ := F.ex
  exact fn_of lk hcd S len fun A outer s H vs Q E hr hsp => hbody cdv A outer s H vs Q E hr hsp
end L2
namespace L2
open PySem PySem.Spec PyProof.Rows
/-- an own __init__ of an exception's class -/
structure Ini (P : Program) (w : World) (K : PySem.W.Frag) (mg : Str → Option Value) (base : Heap) (C : Addr) (k : Nat) (ps : List Str) (sp : Sp) : Prop where
  ex : ∃ (f : Addr) (fd : FuncData), PySem.W.findIn K (.ref C) "__init__" = some (some (.ref f)) ∧ PySem.W.isFn K (.ref f) = true ∧ Binds K fd ps [] ∧ FnOk P w K mg base CX0 k f fd ps sp
theorem pe_makeI {X : Cx} {W C : Addr} {ps : List Str} {sp : Sp} {k : Nat} {x : Str} {p pos : Pos} {e : Expr} {es : List Expr} {t : TA} (M : Exc X.K W C) (D : Ini X.prog X.w X.K X.mg X.base C k ps sp) (hr : Room (k + 1) X.A) (hg : Gl X x) (hm : X.mg x = some (.ref C))
    (ha : PA X (e :: es) t) (hdb : (x == ("__debug__" : Str)) = false := by decide) (he : starEach (e :: es) X.env = (false, eval e X.env) :: starEach es X.env := by rfl) (hpl : (backTo pos (starEach es X.env)).any (·.1) = false := by rfl) :
    PE X (.Call (.Name x p) (e :: es) [] pos) (tMakeX C sp E0 t) := by
  obtain ⟨f, fd, hi, hf, hb, F⟩ := D.ex
  exact pe_makeX M hi hf F hr hg hm hb pass0 ha hdb he hpl
/-- what may be told in an exception's text -/
def okTx (y : V) : Prop := (∃ i : Int, y = .int i ∧ i.natAbs.log2 < 1920) ∨ ∃ z : Str, y = .str z ∧ z.length ≤ 1000
/-- an __init__ that tells a text and keeps one field -/
def spIni (ok : V → Prop) (C : Addr) (f : Str) : Sp := fun vs H Q _ => ∃ (e : Addr) (y : V) (fr : Bool), vs = [.ref e, y] ∧ H e = some (XO e C none fr) ∧ ok y ∧ ∀ d, H d = none → d ≠ e → Q .non (upd (upd H d (.xd [(f, y)])) e (XO e C (some d) fr))
section
variable {σ : St} {H : Hp} {Q : VK} {K : PySem.W.Frag} {W : Addr} {t : TA} {i : Nat} {y : V} {a b : Str}
theorem i_initX (h : t σ H fun vs H1 => ∃ (e C : Addr) (od : Option Addr) (fr : Bool) (y : V), vs = [.ref e, y] ∧ H1 e = some (XO e C od fr) ∧ Exc K W C ∧ Q .non H1) : tInitX K W t σ H Q := h
theorem i_fv {R : VK} (hy : okTx y) (e : σ[i]? = some (some y)) (h : ∀ z : Str, z.length ≤ 2000 → R (.str z) H) : tFv (tVar i) σ H R := by
  refine ⟨y, e, ?_⟩
  rcases hy with ⟨j, rfl, hj⟩ | ⟨z, rfl, hz⟩
  · exact .inl ⟨j, rfl, hj, h⟩
  · exact .inr ⟨z, rfl, Nat.le_trans hz (by decide), h z (Nat.le_trans hz (by decide))⟩
theorem i_fs3 (ha : a.length ≤ 1000) (hb : b.length ≤ 1000) (hy : okTx y) (e : σ[i]? = some (some y)) (h : ∀ z, Q (.str z) H) : tFs (jCons (tC (.str a)) (jCons (tFv (tVar i)) (jCons (tC (.str b)) jNil))) σ H Q := by
  refine ⟨a, rfl, by omega, i_fv hy e fun z hz => ⟨z, rfl, by omega, ⟨b, rfl, by omega, by omega, h⟩⟩⟩
end
theorem i_makeX {σ : St} {H : Hp} {Q : VK} {C : Addr} {sp : Sp} {E : XK} {t : TA} (h : t σ H fun vs H1 => vs.length ≤ sizeLine ∧ ∀ x, H1 x = none → sp (.ref x :: vs) (upd H1 x (XO x C none true)) (fun v H2 => v = .non ∧ Q (.ref x) H2) E) : tMakeX C sp E t σ H Q := h
theorem i_fldX {σ : St} {H : Hp} {Q : VK} {K : PySem.W.Frag} {ta : TE} {f : Str} (h : ta σ H fun x H1 => ∃ (a C W d : Addr) (fr : Bool) (fs : List (Str × V)) (v : V), x = .ref a ∧ H1 a = some (XO a C (some d) fr) ∧ H1 d = some (.xd fs) ∧ Exc K W C ∧ NoAttr K C f ∧ fs.lookup f = some v ∧ Q v H1) : tFldX K ta f σ H Q := h
theorem i_isiX {H : Hp} {Q : VK} {K : PySem.W.Frag} {e C W : Addr} {od : Option Addr} {fr : Bool} {c : V} {cv : Value} {b : Bool} (h1 : H e = some (XO e C od fr)) (h2 : ∀ d, od = some d → ∃ fs, H d = some (.xd fs)) (M : Exc K W C) (h3 : ∀ u, RelV c u → u = cv)
    (h4 : PySem.W.kitOne K (.ref C) cv = some b) (q : Q (.bl b) H) : fIsiX K [.ref e, c] H Q := ⟨e, C, W, od, fr, c, cv, b, rfl, h1, h2, M, h3, h4, q⟩
theorem i_raise {σ : St} {H : Hp} {D : Ends} {K : PySem.W.Frag} {E : XK} {te : TE} (h : te σ H fun v H1 => ∃ (x C W : Addr) (od : Option Addr), v = .ref x ∧ H1 x = some (XO x C od true) ∧ Exc K W C ∧ E (.ref x) od (upd H1 x (XO x C od false))) : tRaise K E te D σ H := h
/-- C(y): a new exception and its dict -/
theorem mk_ini {H : Hp} {R : Addr → Hp → Prop} {C : Addr} {f : Str} {ok : V → Prop} {y : V} {E : XK} (hy : ok y) (h : ∀ x d, H x = none → H d = none → d ≠ x → R x (upd (upd H d (.xd [(f, y)])) x (XO x C (some d) true))) :
    ∀ x, H x = none → spIni ok C f [.ref x, y] (upd H x (XO x C none true)) (fun v H2 => v = .non ∧ R x H2) E := by
  refine fun x hx => ⟨x, y, true, rfl, upd_same, hy, fun d hd hde => ⟨rfl, ?_⟩⟩
  rw [upd_ne hde] at hd
  have := h x d hx hd hde
  rw [upd_comm (Ne.symm hde), upd_upd]
  exact this
end L2

set_option Elab.async false
set_option linter.all false
set_option maxRecDepth 100000
namespace L2
open PySem PySem.Spec PyProof.Rows
/-- an own plain class whose __init__ may raise -/
structure DkX (P : Program) (w : World) (K : PySem.W.Frag) (mg : Str → Option Value) (base : Heap) (C : Addr) (k : Nat) (ps : List Str) (sp : Sp) : Prop where
  ex : ∃ (f : Addr) (fd : FuncData), Mk K C f ∧ Binds K fd ps [] ∧ FnOk P w K mg base (CXx P w) k f fd ps sp
section
variable {X : Cx} {k : Nat} {C : Addr} {ps : List Str} {sp : Sp} {x : Str} {p pos : Pos} {e : Expr} {es : List Expr} {t : TA} {E : XK}
end
/-- isinstance(e, (C, D, ..)), of none of them -/
def fIsiXT (K : PySem.W.Frag) : List V → Hp → VK → Prop := fun xs H Q => ∃ (e p C W : Addr) (od : Option Addr) (fr : Bool) (cs : List Addr), xs = [.ref e, .ref p] ∧ H p = some (.tup (cs.map V.ref)) ∧ H e = some (XO e C od fr) ∧ (∀ d, od = some d → ∃ fs, H d = some (.xd fs)) ∧ Exc K W C ∧
  (∀ c ∈ cs, PySem.W.kitOne K (.ref C) (.ref c) = some false) ∧ Q (.bl false) H
theorem kit_none {K : PySem.W.Frag} {t : Value} : ∀ {cs : List Addr} {us : List Value}, Vals (cs.map V.ref) us → (∀ c ∈ cs, PySem.W.kitOne K t (.ref c) = some false) → PySem.W.kitAny K t us = some false
  | [], _, .nil, _ => rfl
  | c :: cs, _, .cons r rs, h => by
    cases (show _ = Value.ref c from r)
    unfold PySem.W.kitAny
    rw [h c List.mem_cons_self]
    exact kit_none rs fun d hd => h d (List.mem_cons_of_mem _ hd)
theorem c_isiXT {X : Cx} {K : PySem.W.Frag} (hK : X.K = K := by rfl) : CallR X (.builtin "isinstance") (fIsiXT K) := by
  subst hK
  rintro pins s σ H xs us Q I rs ⟨e, p, C, W, od, fr, cs, rfl, hp, hX, hd, M, hk, q⟩
  cases rs with
  | cons r1 rs =>
    cases rs with
    | cons r2 rs =>
      cases rs
      cases (show _ = Value.ref e from r1)
      cases (show _ = Value.ref p from r2)
      obtain ⟨vs, t0, he, hz, h0, h1⟩ := xo_get I.hok hX
      have J : ∃ odo, PySem.W.InstAt s.heap e ⟨.ref C, od, .fields vs, #[]⟩ C odo := by
        cases od with
        | none => exact ⟨none, he, rfl, rfl, True.intro⟩
        | some d =>
          obtain ⟨fs, hf⟩ := hd d rfl
          obtain ⟨ob, ho⟩ := objThere (I.hok d _ hf)
          exact ⟨some ob, he, rfl, rfl, ho⟩
      obtain ⟨odo, J⟩ := J
      obtain ⟨its, rv, pl, hz⟩ := I.tuple (SqT.of hp)
      obtain ⟨⟨cls, dd, data, sl⟩, ho, hc, n, hd'⟩ := id pl
      simp only at hc hd'
      subst hc hd'
      exact PySem.W.kia_tup (kitx_x M) I.kIn J ho (kit_none rv hk) (fun z => nomatch z) fun tk => ⟨.bl false, H, I.tok _, rfl, q⟩
theorem i_isiXT {H : Hp} {Q : VK} {K : PySem.W.Frag} {e p C W : Addr} {od : Option Addr} {fr : Bool} {cs : List Addr} (h0 : H p = some (.tup (cs.map V.ref))) (h1 : H e = some (XO e C od fr)) (h2 : ∀ d, od = some d → ∃ fs, H d = some (.xd fs)) (M : Exc K W C)
    (h3 : ∀ c ∈ cs, PySem.W.kitOne K (.ref C) (.ref c) = some false) (h : Q (.bl false) H) : fIsiXT K [.ref e, .ref p] H Q := ⟨e, p, C, W, od, fr, cs, rfl, h0, h1, h2, M, h3, h⟩
end L2

set_option Elab.async false
set_option linter.all false
set_option maxRecDepth 100000
namespace L2
open PySem PySem.Spec PyProof.Rows
/-! ### try: the names stay where an exception comes out of its first statement -/
def PassesAt (σ : St) (CX : CXT) (X : Cx) (E : XK) : Prop := ∀ (pins : List (Addr × Obj)) (H : Hp) (s : Shared) (e : Value) (s' : Shared), Inv X pins σ H s → CX X.stack H s E e s' → X.xe e s'
def PEat (X : Cx) (σ : St) (e : Expr) (t : TE) : Prop :=
  ∀ (pins : List (Addr × Obj)) (s : Shared) (H : Hp) (Q : VK), Inv X pins σ H s → t σ H Q → wpAny (model X.prog X.w) X.A (eval e X.env) (EP X pins σ Q) X.xe s
def PSat (X : Cx) (σ : St) (st : Stmt) (t : TS) : Prop :=
  ∀ (pins : List (Addr × Obj)) (s : Shared) (H : Hp) (D : Ends), Inv X pins σ H s → t D σ H → wpAny (model X.prog X.w) X.A (exec st X.env) (SP X pins D) X.xe s
section
variable {X : Cx} {σ : St} {CX : CXT} {k : Nat} {f C : Addr} {fd : FuncData} {ps : List Str} {sp : Sp} {dvs : List V} {ds : List Value} {E : XK} {x m : Str} {p pos apos : Pos} {e o : Expr} {es : List Expr} {ta te : TE} {t : TA}
theorem run_makeAt {pins : List (Addr × Obj)} {H : Hp} {s : Shared} {Q : VK} {us : List Value} {vs : List V} (M : Mk X.K C f) (F : FnOk X.prog X.w X.K X.mg X.base CX k f fd ps sp) (hr : Room (k + 1) X.A) (hb : Binds X.K fd ps ds) (hd : Vals dvs ds)
    (hx : PassesAt σ CX X E) (I : Inv X pins σ H s) (r : Vals vs us)
    (h : ∀ x dx, H x = none → H dx = none → dx ≠ x → sp (.ref x :: (vs ++ dvs)) (upd (upd H dx (.own x)) x (.ins C dx [])) (fun v H2 => v = .non ∧ Q (.ref x) H2) E) :
    wpAny (model X.prog X.w) X.A (call (.ref C) us) (EP X pins σ Q) X.xe s := by
  have hq := h (s.heap.objs.size + 1) s.heap.objs.size (I.hok.fresh (Nat.le_succ _)) (I.hok.fresh (Nat.le_refl _)) (Nat.ne_of_lt (Nat.lt_succ_self _))
  have I2 := Inv.made (C := C) I
  have r2 : Vals (V.ref (s.heap.objs.size + 1) :: (vs ++ dvs)) (Value.ref (s.heap.objs.size + 1) :: (us ++ ds)) := .cons rfl (r.append hd)
  have hl : (Value.ref (s.heap.objs.size + 1) :: us ++ ds).length = ps.length := by
    have e := r2.length
    rw [F.len _ _ _ _ hq] at e
    exact e.symm
  refine wpAny_call (make_map (f := f) I.kIn M.makes M.init (beq_iff_eq.mp M.fn) (codeAny_mono (F.run _ X.stack _ _ ⟨Value.ref (s.heap.objs.size + 1) :: us, []⟩ (Value.ref (s.heap.objs.size + 1) :: (us ++ ds)) _ _ E (hr.make C us [])
    (I2.env0.make C us []) (hb _ (Value.ref (s.heap.objs.size + 1) :: us) I2.kIn hl) r2 hq) fun r s' hq' => ?_))
  cases r with
  | error e => exact hx pins _ _ e s' I2 hq'
  | ok fl =>
    cases fl with
    | ret u =>
      obtain ⟨v, H', I3, rv, ev, q3⟩ := I2.after hq'
      subst ev
      exact ⟨rv, ⟨V.ref (s.heap.objs.size + 1), H', I3, rfl, q3⟩⟩
    | next => exact False.elim hq'
    | brk => exact False.elim hq'
    | cont => exact False.elim hq'
theorem pa_makeDX (D : DkX X.prog X.w X.K X.mg X.base C k ps sp) (hr : Room (k + 1) X.A) (hg : Gl X x) (hm : X.mg x = some (.ref C)) (hx : PassesAt σ (CXx X.prog X.w) X E) (ha : PA X (e :: es) t)
    (hdb : (x == ("__debug__" : Str)) = false := by decide) (he : starEach (e :: es) X.env = (false, eval e X.env) :: starEach es X.env := by rfl) (hpl : (backTo pos (starEach es X.env)).any (·.1) = false := by rfl) :
    PEat X σ (.Call (.Name x p) (e :: es) [] pos) (tMake C sp [] E t) := by
  obtain ⟨f, fd, h1, h2, h3⟩ := D.ex
  intro pins s H Q I h
  refine wpAny_Call_Name_kw (ld_glob I hg hm ?_ hdb)
  refine PySem.W.callWith_K (h₀ := X.base) I.ok.mod.kin h1.kp (thn (ha pos pins s σ H _ I h) fun us s1 ⟨vs, H1, I1, r, q⟩ => ⟨I1.kIn, ?_⟩) he hpl
  exact run_makeAt h1 h3 hr h2 .nil hx I1 r q
theorem psat_expr (he : PEat X σ e te) (hs : swapsWith e none pos.line X.env = pure false := by rfl) : PSat X σ (.Expr e pos) (tDrop te) := by
  intro pins s H D I h
  exact wpAny_Expr_any (thn (he pins s H _ I h) fun v s1 ⟨x, H1, I1, r1, q1⟩ => ⟨σ, H1, I1, q1⟩) I.quiet hs
end
section
variable {X : Cx} {EX : St → XK} {W : Addr} {Wn en : Str} {i : Nat} {st : Stmt} {body suite : List Stmt} {b0 : Stmt} {t0 : St → TS} {tb ts : TS} {wp hpos pos : Pos}
def tTryK (EX : St → XK) (i : Nat) (t0 : St → TS) (tb ts : TS) : TS := fun D σ H => t0 σ { D with nx := tb D } σ H ∧ ∀ (x : Addr) (od : Option Addr) (H' : Hp), EX σ (.ref x) od H' → ts { nx := fun σ2 H2 => D.nx (σ2.set i none) H2, rt := D.rt } (σ.set i (some (.ref x))) H'
theorem i_tryK {σ : St} {H : Hp} {D : Ends} (h1 : t0 σ { D with nx := tb D } σ H) (h2 : ∀ (x : Addr) (od : Option Addr) (H' : Hp), EX σ (.ref x) od H' → ts { nx := fun σ2 H2 => D.nx (σ2.set i none) H2, rt := D.rt } (σ.set i (some (.ref x))) H') : tTryK EX i t0 tb ts D σ H := ⟨h1, h2⟩
theorem ps_tryK (hst : X.stack = X.env :: X.outer) (hL : X.env.frame = some X.env.locals) (hN : X.N.Nodup) (hi : X.N[i]? = some en) (hk : X.env.scope.names.lookup en = some .local) (hg : Gl X Wn) (hm : X.mg Wn = some (.ref W)) (MW : ExcW X.K W)
    (hE : ∀ σ x od H', EX σ (.ref x) od H' → ∃ C, H' x = some (XO x C od false) ∧ Exc X.K W C)
    (hb1 : ∀ pn xe σ, PassesAt σ (CXx X.prog X.w) (X.tried pn xe) (EX σ) → PSat (X.tried pn xe) σ st (t0 σ)) (hb2 : ∀ pn xe, PSs (X.tried pn xe) body tb) (hs : ∀ x, PSs (X.marked x) (b0 :: suite) ts) (hdb : (Wn == ("__debug__" : Str)) = false := by decide) :
    PS X (.Try (st :: body) [.ExceptHandler (some (.Name Wn wp)) (some en) (b0 :: suite) hpos] [] [] pos) (tTryK EX i t0 tb ts) := by
  intro pins s σ H D I ⟨q1, q2⟩
  have hbody : wpAny (model X.prog X.w) X.A (execs (st :: body) X.env) (SP (X.tried (X.pn ++ pins) (fun e s1 => ∃ H' s', Inv X pins σ H' s' ∧ CXx X.prog X.w X.stack H' s' (EX σ) e s1)) [] D) (fun e s1 => ∃ H' s', Inv X pins σ H' s' ∧ CXx X.prog X.w X.stack H' s' (EX σ) e s1) s := by
    refine wpAny_execs_cons (thn (hb1 (X.pn ++ pins) (fun e s1 => ∃ H' s', Inv X pins σ H' s' ∧ CXx X.prog X.w X.stack H' s' (EX σ) e s1) σ (fun pins' H' s' e s1 I' z => ⟨H', s', Inv.untry I.ok I', z⟩) [] s H { D with nx := tb D } (I.try_ _) q1) fun f s1 q => ?_)
    cases f with
    | next =>
      obtain ⟨σ', H', I', q⟩ := q
      exact hb2 _ _ [] s1 σ' H' D I' q
    | ret v => exact q
    | brk => exact q
    | cont => exact q
  refine wpAny_Try_except (wpAny_mono hbody (fun f s1 z => ?_) fun e s1 z => ?_)
  · cases f with
    | next =>
      obtain ⟨σ', H', I', q⟩ := z
      exact wpAny_execs_nil ⟨σ', H', Inv.untry I.ok I', q⟩
    | brk => obtain ⟨σ', H', I', q⟩ := z; exact ⟨σ', H', Inv.untry I.ok I', q⟩
    | cont => obtain ⟨σ', H', I', q⟩ := z; exact ⟨σ', H', Inv.untry I.ok I', q⟩
    | ret u => obtain ⟨v, σ', H', I', r, q⟩ := z; exact ⟨v, σ', H', Inv.untry I.ok I', r, q⟩
  · obtain ⟨H1, s', I1, x, C, od, H2, B, rfl, os, bare, U, ok, hX, F, ht, hbb, hE2⟩ := z
    have F' := F
    rw [hst] at F
    obtain ⟨C', hX', ME⟩ := hE _ _ _ _ hE2
    obtain ⟨_, _, z1, _⟩ := xo_get ok hX
    obtain ⟨_, _, z2, _⟩ := xo_get ok hX'
    have zC : C = C' := by
      rw [z1] at z2
      have := congrArg (Option.map Obj.cls) z2
      exact Value.ref.inj (Option.some.inj this)
    subst zC
    obtain ⟨nm, qn, N, bs, sn, sub, ab, col, dd, k0, k1, k2, k3, k5, oC⟩ := ME.ob
    obtain ⟨nm2, qn2, N2, bs2, hd2, sn2, sub2, ab2, col2, dd2, j0, j1, j2, j3, j5, nw2, oW⟩ := MW.ob
    have fd : ∀ b ∈ frs X.stack, ∀ o, s1.heap.get? b = some o → ∀ vs, o.data ≠ .fields vs := fun b hb o q => by
      obtain ⟨_, o2, e2, h2⟩ := F'.2.2.1.mem hb
      rw [q] at e2; cases e2; exact h2
    have inv : ∀ h3 t3 l3 fl, Fl B l3 x C od fl h3 → s1.heap.UpToSlots h3 → Inv X pins σ H2 { s1 with heap := h3, toks := t3 } := fun h3 t3 l3 fl x3 u3 => by
      have hU := un_fly (fs := frs X.stack) U (fun _ _ _ z => z) hX (fun b o o' q e hn hx => hbb b o o' q e hn hx) x3 u3 fd
      have hK := hok_fly ok hX ht x3
      rw [upd_self hX] at hU hK
      exact I1.call' (s' := { s1 with heap := h3, toks := t3 }) os hU hK bare (fun b z => absurd z (by simp))
    refine fl_note (by rw [← hst]; exact I.ok.frames) hL F fun h2 x2 u2 => ?_
    refine fl_free (s := { s1 with heap := h2 }) x2 fun h3 x3 u3 => ?_
    have I3 := inv h3 s1.toks _ _ x3 (u2.trans u3)
    refine wpAny_handleBy_cons (codeAny_handlers_test ?_) (by intro q; cases q)
    refine ld_glob (X := X.marked x) (I3.mark x) hg hm ?_ hdb
    obtain ⟨vs3, t03, e3, _⟩ := x3.at
    have kI := I3.kIn
    obtain ⟨sh, sg, sd, st, so⟩ := s1
    refine xc_matches (kI _ _ oC) (kI _ _ oW) e3 rfl ?_
    refine codeAny_handlers_suite_as ?_
    refine fl_free (s := ⟨h3, sg, sd, st, so⟩) x3 fun h5 x5 u5 => ?_
    have I5 := inv h5 st _ _ x5 ((u2.trans u3).trans u5)
    refine store_ok (X := X.marked x) (v := .ref x) (I5.mark x) hN hi (.inl hk) rfl (fun s6 I6 => ?_) (.inr hk)
    refine wpAny_mono (hs x pins s6 _ H2 _ I6 (q2 x od H2 hE2)) (fun f s7 z => ?_) fun _ _ z => z.elim
    cases f with
    | next =>
      obtain ⟨σ7, H7, I7, q7⟩ := z
      exact unbind_ok (Inv.unmark I.ok I7) hN hi hk fun s8 I8 => ⟨_, H7, I8, q7⟩
    | brk => obtain ⟨_, _, _, z⟩ := z; exact z.elim
    | cont => obtain ⟨_, _, _, z⟩ := z; exact z.elim
    | ret u =>
      obtain ⟨v, σ7, H7, I7, r7, q7⟩ := z
      exact unbind_ok (Inv.unmark I.ok I7) hN hi hk fun s8 I8 => ⟨v, _, H7, I8, r7, q7⟩
end
end L2

set_option Elab.async false
set_option linter.all false
set_option maxRecDepth 100000
set_option maxHeartbeats 4000000
namespace K61
open PySem L2
local macro_rules | `(tactic| walk_at "sc") => `(tactic| first | assumption | omega | exact rfl | decide | exact szn (by omega) | (simp only [List.length_cons, List.length_nil, List.length_map, S_length] <;> omega) | trivial)
local macro_rules | `(tactic| walk_at "sq") => `(tactic| first | assumption | exact seqR_upd | exact seqR_updT | (exact seqR_lst (by assumption)) | (exact seqR_tup (by assumption)))
local macro_rules | `(tactic| walk_at "sl") => `(tactic| first | assumption | exact SqL.of upd_same | exact SqL.of (by assumption))
local macro_rules | `(tactic| walk_at "st") => `(tactic| first | assumption | exact SqT.of upd_same | exact SqT.of (by assumption))
local macro_rules | `(tactic| walk_at "lq") => `(tactic| first | assumption | exact lstR_upd | (exact lstR_of (by assumption)))
local macro_rules | `(tactic| walk_at "at") => `(tactic| first | exact atI_0 _ _ | exact atI_1 _ _ _ | exact atI_2 _ _ _ _ | exact atI_3 _ _ _ _ _ | assumption)
local macro_rules | `(tactic| walk_at "mu") => `(tactic| first | (exact CMul.l (by omega) (by omega)) | (exact CMul.r (by omega) (by omega)) | (exact CMul.l (by decide) (by decide)) | (exact CMul.r (by decide) (by decide)))
local macro_rules | `(tactic| walk_at "sd") => `(tactic| first | omega | (simp only [List.length_append, List.length_cons, List.length_nil, List.length_map, frame_length] <;> omega))
local macro_rules | `(tactic| walk_at "g1") => `(tactic| first
  | (with_reducible refine i_seq ?_) | (with_reducible refine i_ifs ?_) | (with_reducible refine i_asg ?_) | (with_reducible refine i_op ?_) | ((with_reducible refine' i_var ?k1 ?_); (case k1 => exact rfl)) | (with_reducible refine i_c ?_)
  | (with_reducible refine i_ret ?_) | (with_reducible refine i_next ?_) | (with_reducible refine i_drop ?_) | (with_reducible refine i_name ?_) | (with_reducible refine i_gsub ?_) | (with_reducible refine i_test ?_) | (with_reducible refine i_bl ?_)
  | (with_reducible refine i_fI0 ?_) | (with_reducible refine i_addI ?_) | ((with_reducible refine' i_fI ?k1 ?_); (case k1 => walk_at "sc")) | ((with_reducible refine' i_mulI ?k1 ?_); (case k1 => walk_at "mu"))
  | ((with_reducible refine' i_ixR ?k1 ?k2 ?_); (case k1 => walk_at "sq"); (case k2 => walk_at "at")) | (with_reducible refine i_cons ?_) | (with_reducible refine i_nil ?_) | (with_reducible refine i_cb ?_) | (with_reducible refine i_call ?_)
  | (with_reducible refine i_and ?_) | (with_reducible refine i_or ?_) | (with_reducible refine i_not ?_) | (with_reducible refine i_andV ?_) | (with_reducible refine i_orV ?_) | (with_reducible refine i_notV ?_) | (with_reducible refine i_ifE ?_) | (with_reducible refine i_chain ?_)
  | (with_reducible refine i_un ?_) | (with_reducible refine i_neg ?_) | (with_reducible refine i_sl ?_) | (with_reducible refine i_nopart ?_) | (with_reducible refine i_part ?_) | (with_reducible refine i_exI ?_)
  | ((with_reducible refine' i_eq ?k1 ?_); (case k1 => exact rfl)) | ((with_reducible refine' i_ne ?k1 ?_); (case k1 => exact rfl)) | (with_reducible refine i_is ?_) | (with_reducible refine i_isnot ?_) | (with_reducible refine i_inS ?_)
  | ((with_reducible refine' i_lenC ?k1 ?_); (case k1 => walk_at "sd")) | ((with_reducible refine' i_lenS ?k1 ?_); (case k1 => walk_at "sc")) | ((with_reducible refine' i_lenR ?k1 ?_); (case k1 => walk_at "sq")) | (with_reducible refine i_1I ?_) | (with_reducible refine i_2I ?_) | (with_reducible refine i_intB ?_) | (with_reducible refine i_intI ?_)
  | ((with_reducible refine' i_addC ?k1 ?_); (case k1 => walk_at "sd")) | ((with_reducible refine' i_slC ?k1 ?_); (case k1 => walk_at "sd")) | ((with_reducible refine' i_addS ?k1 ?_); (case k1 => walk_at "sc")) | ((with_reducible refine' i_slS ?k1 ?_); (case k1 => walk_at "sc")) | (with_reducible refine i_truB ?_) | (with_reducible refine i_truI ?_) | (with_reducible refine i_SS ?_) | (with_reducible refine i_SSI ?_)
  | ((with_reducible refine' i_appL ?k1 ?k2 ?_); (case k1 => first | assumption | exact upd_same); (case k2 => walk_at "sc")) | (with_reducible refine i_rng1 ?_) | (with_reducible refine i_rng2 ?_) | ((with_reducible refine' i_r1 ?k1 ?_); (case k1 => omega)) | (with_reducible refine i_comp ?_) | (with_reducible refine i_true ?_)
  | (with_reducible refine i_data ?_) | (with_reducible refine i_bm ?_) | (with_reducible refine i_bm0 ?_) | (with_reducible refine i_tyS ?_) | ((with_reducible refine' i_tyL ?k1 ?_); (case k1 => walk_at "sl")) | (with_reducible refine i_for ?_) | (with_reducible refine i_any ?_) | (with_reducible refine i_anyS ?_) | ((with_reducible refine' i_anyL ?k1 ?_); (case k1 => walk_at "sl")) | ((with_reducible refine' i_anyT ?k1 ?_); (case k1 => walk_at "st")) | (with_reducible refine i_enumS ?_) | (with_reducible refine i_enum ?_) | (with_reducible refine i_enS ?_)
  | ((with_reducible refine' i_lenK ?k1 ?_); (case k1 => assumption)) | ((with_reducible refine' i_ixK ?k1 ?k2 ?_); (case k1 => assumption); (case k2 => walk_at "at"))
  | (with_reducible refine i_lst ?_) | (with_reducible refine i_tup ?_) | (with_reducible refine i_retN ?_) | ((with_reducible refine' iteBT ?k1 ?_); (case k1 => first | exact rfl | decide)) | ((with_reducible refine' iteBF ?k1 ?_); (case k1 => first | exact rfl | decide)) | ((with_reducible refine' iteDF ?k1 ?_); (case k1 => intro z; cases z)) | ((with_reducible refine' iteDT ?k1 ?_); (case k1 => exact rfl)) | ((with_reducible refine' i_sz ?k1 ?_); (case k1 => exact szc rfl)) | ((with_reducible refine' i_isi ?k1 ?k2 ?_); (case k1 => first | exact rfl | (exact tyN_tup (by assumption)) | (exact tyN_lst (by assumption))); (case k2 => exact rfl)) | ((with_reducible refine' i_r2 ?k1 ?_); (case k1 => omega)) | ((with_reducible show Ends.nx _ _ _); dsimp only) | ((with_reducible show Ends.rt _ _ _); dsimp only) | ((with_reducible refine' i_set ?k1 ?k2 ?_); (case k1 => first | assumption | exact upd_same); (case k2 => first | exact rfl | (exact ixN_of (by omega) (by omega)))))
local macro_rules | `(tactic| walk_at "go") => `(tactic| repeat (walk_at "g1"))
seal L2.PSs L2.PS L2.PE L2.PT L2.PA L2.PI L2.PG L2.PTs L2.PGs L2.PO L2.PW
def top (i : Nat) : Stmt := PySem.Challenge.pw_breakwords_k61_words_told_twice.main.body.getD i (.Pass ⟨0, 0, 0, 0⟩)
structure Txt (mg : Str → Option Value) (tk : Nat → Tok) : Prop where
  z_len : mg "len" = none
  z_abs : mg "abs" = none
  z_all : mg "all" = none
  z_range : mg "range" = none
  z_isinstance : mg "isinstance" = none
  z_tuple : mg "tuple" = none
  z_list : mg "list" = none
  z_bool : mg "bool" = none
  z_str : mg "str" = none
  z_int : mg "int" = none
  z_ValueError : mg "ValueError" = none
structure Cs (K : PySem.W.Frag) (mg : Str → Option Value) (ad : Nat → Addr) : Prop where
  m_WordError : mg "WordError" = some (.ref (ad 0))
  b_WordError : ExcBase K (ad 0)
  w_WordError : ExcW K (ad 0)
  m_NoWord : mg "NoWord" = some (.ref (ad 1))
  x_NoWord : Exc K (ad 0) (ad 1)
  n_NoWord : NoAttr K (ad 1) "place"
  m_NoPattern : mg "NoPattern" = some (.ref (ad 2))
  x_NoPattern : Exc K (ad 0) (ad 2)
  n_NoPattern : NoAttr K (ad 2) "place"
  m_NoThing : mg "NoThing" = some (.ref (ad 3))
  x_NoThing : Exc K (ad 0) (ad 3)
  n_NoThing : NoAttr K (ad 3) "place"
  m_TooNarrow : mg "TooNarrow" = some (.ref (ad 4))
  x_TooNarrow : Exc K (ad 0) (ad 4)
  n_TooNarrow : NoAttr K (ad 4) "place"
  m_Twice : mg "Twice" = some (.ref (ad 5))
  x_Twice : Exc K (ad 0) (ad 5)
  n_Twice : NoAttr K (ad 5) "word"
  m_NoTongue : mg "NoTongue" = some (.ref (ad 6))
  x_NoTongue : Exc K (ad 0) (ad 6)
  n_NoTongue : NoAttr K (ad 6) "name"
  m_NoRow : mg "NoRow" = some (.ref (ad 7))
  x_NoRow : Exc K (ad 0) (ad 7)
  i_NoRow : PySem.W.findIn K (.ref (ad 7)) "__init__" = some (some (.builtin xIni))
  nd : ([ad 0, ad 1, ad 2, ad 3, ad 4, ad 5, ad 6, ad 7] : List Addr).Nodup
abbrev s_Twice_init : Stmt := inClass (top 5) 0
theorem sc_Twice_init : FnScope ["self", "word"] ["self", "word"] (defScope s_Twice_init) := ⟨rfl, rfl, rfl, by decide +kernel, rfl, by decide +kernel, by decide +kernel⟩
section
variable {P : Program} {w : World} {K : PySem.W.Frag} {mg : Str → Option Value} {base : Heap} {f : Addr} {fd : FuncData} {ad : Nat → Addr}
theorem ok_Twice_init (Z : Cs K mg ad) (F : Fun K "__init__" "Twice.__init__" s_Twice_init f fd) : FnOk P w K mg base CX0 1 f fd ["self", "word"] (spIni okTx (ad 5) "word") := by
  refine F.ok sc_Twice_init (fun vs H Q E h => ?_) (fun cdv A outer s H vs Q E hr h => ?_)
  · obtain ⟨e, y, fr, rfl, _⟩ := h
    rfl
  obtain ⟨e, y, fr, rfl, hX, hy, q⟩ := h
  have nd := sc_Twice_init.nd
  refine ⟨_, (pss_cons (ps_expr (pe_initX Z.b_WordError rfl Z.m_WordError (pa_cons (pv 0) (pa_cons (pe_fs (pj_cons pe_str (pj_cons (pe_fv (pv 1)) (pj_cons pe_str pj_nil)))) pa_nil))))
    (pss_one (ps_fldX (pv 0) (pv 1) rfl))), ?_⟩
  rw [show L2.start ["self", "word"] [.ref e, y] = [some (.ref e), some y] from rfl]
  refine i_seq (i_drop (i_initX (i_cons (i_var rfl (i_cons (i_fs3 (by decide) (by decide) hy rfl fun z => i_nil ⟨e, ad 5, none, fr, _, rfl, hX, Z.x_Twice, ?_⟩))))))
  exact ⟨y, rfl, .ref e, rfl, e, ad 5, ad 0, fr, rfl, hX, Z.x_Twice, Z.n_Twice, fun d hd hde => q d hd hde⟩
end
abbrev s_law_feed : Stmt := top 19
theorem sc_law_feed : FnScope ["_law_script", "_law_k", "_law_cell", "_law_left"] ["_law_script", "_law_k"] (defScope s_law_feed) := ⟨rfl, rfl, rfl, by decide +kernel, rfl, by decide +kernel, by decide +kernel⟩
abbrev s_law_next : Stmt := top 20
theorem sc_law_next : FnScope ["_law_feed_here", "_law_many", "_law_digit", "_law_mixed"] ["_law_feed_here", "_law_many"] (defScope s_law_next) := ⟨rfl, rfl, rfl, by decide +kernel, rfl, by decide +kernel, by decide +kernel⟩
abbrev s_law_alike : Stmt := top 21
theorem sc_law_alike : FnScope ["_law_found", "_law_due"] ["_law_found", "_law_due"] (defScope s_law_alike) := ⟨rfl, rfl, rfl, by decide +kernel, rfl, by decide +kernel, by decide +kernel⟩
section
variable {P : Program} {w : World} {K : PySem.W.Frag} {mg : Str → Option Value} {base : Heap} {f : Addr} {fd : FuncData} {tk : Nat → Tok}
theorem ok_law_feed (T : Txt mg tk) (F : Fun K "_law_feed" "_law_feed" s_law_feed f fd) : FnOk P w K mg base CX0 1 f fd ["_law_script", "_law_k"] (spFeed K) := by
  refine F.ok sc_law_feed (fun vs H Q E h => ?_) (fun cdv A outer s H vs Q E hr h => ?_)
  · obtain ⟨a, ns, k, rfl, _⟩ := h
    rfl
  obtain ⟨a, ns, k, rfl, hl, hk0, hk1, q⟩ := h
  have nd := sc_law_feed.nd
  refine ⟨_, (pss_cons (ps_set (i := 2) nd rfl (Or.inl rfl) pe_int)
    (pss_cons (ps_if (pt_cmpR o_gt (pe_callB (c_len (K := K)) rfl T.z_len (by decide +kernel) (pa_cons (pv 0) pa_nil)) pe_int (nomark _))
     (pss_one (ps_set (i := 2) nd rfl (Or.inl rfl) (pe_ix (ix_any (K := K)) (pv 0) (pe_op o_mod (pv 1) (pe_callB (c_len (K := K)) rfl T.z_len (by decide +kernel) (pa_cons (pv 0) pa_nil))) (fun _ _ => rfl))))
     pss_nil)
    (pss_cons (ps_set (i := 3) nd rfl (Or.inl rfl) (pe_callB c_abs rfl T.z_abs (by decide +kernel) (pa_cons (pv 2) pa_nil)))
    (pss_cons (ps_if (pt_cmpR o_lt (pv 3) (pe_op o_pow pe_int pe_int) (nomark _))
     (pss_one (ps_set (i := 3) nd rfl (Or.inl rfl) pe_int))
     pss_nil)
    (pss_one (ps_ret (pe_lst (pa_cons (pv 3) (pa_cons (pe_op o_mod (pe_op o_add (pe_op o_add (pv 2) (pe_op o_mul pe_int (pv 1))) pe_int) pe_int) (pa_cons pe_int pa_nil)))))))))), ?_⟩
  rw [show L2.start ["_law_script", "_law_k", "_law_cell", "_law_left"] [.ref a, .int k] = [some (.ref a), some (.int k), none, none] from rfl]
  have fin : ∀ (cell left : Int), 0 ≤ left → ∀ p, H p = none → Q (.ref p) (upd H p (.lst [.int left, .int ((cell + 7919 * k + 13) % 2147483399), .int 0])) := fun cell left h0 p hp =>
    q p _ hp ⟨left, _, 0, upd_same, h0, Int.emod_nonneg _ (by decide), Int.emod_lt_of_pos _ (by decide), Int.le_refl 0, Int.le_refl 0⟩ ((Off.refl p H).upd _)
  have hlen : (ns.map V.int).length = ns.length := List.length_map _
  walk_at "go"
  refine iteD (fun c => ?_) (fun c => ?_)
  · rw [hlen] at c
    walk_at "go"
    have hix : (k % (ns.length : Int)).toNat < ns.length := by
      have h1 := Int.emod_lt_of_pos k c
      have h2 := Int.emod_nonneg k (show (ns.length : Int) ≠ 0 by omega)
      omega
    refine i_ixK (v := .int ns[(k % (ns.length : Int)).toNat]) hl ?_ ?_
    · rw [hlen]
      exact atI_of (Int.emod_nonneg k (by omega)) (by rw [List.getElem?_map, List.getElem?_eq_getElem hix]; rfl)
    walk_at "go"
    refine iteD (fun c => ?_) (fun c => ?_)
    · walk_at "go"
      exact (fun p hp => fin _ 0 (Int.le_refl 0) p hp)
    · walk_at "go"
      refine (fun p hp => fin _ _ ?_ p hp)
      split <;> omega
  · walk_at "go"
    exact fun p hp => fin 0 0 (Int.le_refl 0) p hp
theorem ok_law_next (F : Fun K "_law_next" "_law_next" s_law_next f fd) : FnOk P w K mg base CX0 1 f fd ["_law_feed_here", "_law_many"] spNext := by
  refine F.ok sc_law_next (fun vs H Q E h => ?_) (fun cdv A outer s H vs Q E hr h => ?_)
  · obtain ⟨p, m, n, rfl, _⟩ := h
    rfl
  obtain ⟨p, m, n, rfl, ⟨a, b, c, h1, ha, hb0, hb1, hc0, hc1⟩, hn, hm0, hm1, q⟩ := h
  have nd := sc_law_next.nd
  refine ⟨_, (pss_cons (ps_if (pt_cmpR o_gt (pe_ix (ix_any (K := K)) (pv 0) pe_int (fun _ _ => rfl)) pe_int (nomark _))
     (pss_cons (ps_set (i := 2) nd rfl (Or.inl rfl) (pe_op o_mod (pe_ix (ix_any (K := K)) (pv 0) pe_int (fun _ _ => rfl)) (pv 1)))
    (pss_cons (ps_asg (pe_op o_fdiv (pe_ix (ix_any (K := K)) (pv 0) pe_int (fun _ _ => rfl)) (pv 1)) (pg_sub (pv 0) pe_int set_l))
    (pss_one (ps_ret (pv 2)))))
     pss_nil)
    (pss_cons (ps_asg (pe_op o_add (pe_ix (ix_any (K := K)) (pv 0) pe_int (fun _ _ => rfl)) pe_int) (pg_sub (pv 0) pe_int set_l))
    (pss_cons (ps_set (i := 3) nd rfl (Or.inl rfl) (pe_op o_mod (pe_op o_mul (pe_op o_mod (pe_op o_add (pe_op o_add (pe_ix (ix_any (K := K)) (pv 0) pe_int (fun _ _ => rfl)) (pe_op o_mul pe_int (pe_ix (ix_any (K := K)) (pv 0) pe_int (fun _ _ => rfl)))) pe_int) pe_int) pe_int) pe_int))
    (pss_cons (ps_set (i := 3) nd rfl (Or.inl rfl) (pe_op o_mod (pe_op o_mul (pe_op o_mod (pe_op o_add (pe_op o_mul (pv 3) pe_int) (pe_op o_mul (pe_ix (ix_any (K := K)) (pv 0) pe_int (fun _ _ => rfl)) (pe_ix (ix_any (K := K)) (pv 0) pe_int (fun _ _ => rfl)))) pe_int) pe_int) pe_int))
    (pss_one (ps_ret (pe_op o_mod (pe_op o_fdiv (pv 3) pe_int) (pv 1)))))))), ?_⟩
  rw [show L2.start ["_law_feed_here", "_law_many", "_law_digit", "_law_mixed"] [.ref p, .int m] = [some (.ref p), some (.int m), none, none] from rfl]
  unfold feedTop at hn
  walk_at "go"
  refine iteD (fun c0 => ?_) (fun c0 => ?_)
  · walk_at "go"
    exact q _ _ (Int.emod_nonneg _ (by omega)) (Int.emod_lt_of_pos _ hm0) ⟨a / m, b, c, upd_same, Int.ediv_nonneg ha (by omega), hb0, hb1, hc0, by omega⟩ ((Off.refl p H).upd _)
  · walk_at "go"
    exact q _ _ (Int.emod_nonneg _ (by omega)) (Int.emod_lt_of_pos _ hm0) ⟨a, b, c + 1, upd_same, ha, hb0, hb1, by omega, by omega⟩ ((Off.refl p H).upd _)
theorem ok_law_alike (T : Txt mg tk) (F : Fun K "_law_alike" "_law_alike" s_law_alike f fd) (bF : Binds K fd ["_law_found", "_law_due"] []) (mF : mg "_law_alike" = some (.ref f)) :
    ∀ n, FnOk P w K mg base CX0 n f fd ["_law_found", "_law_due"] (spAlike n)
  | 0 => by
    have no : ∀ vs H Q E, ¬ spAlike 0 vs H Q E := fun vs H Q E h => by
      obtain ⟨u, v, d, _, _, _, h0, _⟩ := h
      omega
    exact ⟨fun vs H Q E h => absurd h (no vs H Q E), fun A outer s H args us vs Q E _ _ _ _ h => absurd h (no vs H Q E)⟩
  | n + 1 => by
    have D_law_alike : Dn P w K mg base "_law_alike" n ["_law_found", "_law_due"] (spAlike n) := ⟨f, fd, mF, F.kp, bF, ok_law_alike T F bF mF n⟩
    refine F.ok sc_law_alike (fun vs H Q E h => ?_) (fun cdv A outer s H vs Q E hr h => ?_)
    · obtain ⟨u, v, d, rfl, _⟩ := h
      rfl
    obtain ⟨u, v, d, rfl, hu, hv, hd, hw, q⟩ := h
    have nd := sc_law_alike.nd
    refine ⟨_, (pss_cons (ps_if (pt_tru (pe_callB c_isinstance rfl T.z_isinstance (by decide +kernel) (pa_cons (pv 1) (pa_cons (pe_tup (pa_cons (pe_bltn (v := .ty "tuple") rfl T.z_tuple (by decide +kernel) rfl) (pa_cons (pe_bltn (v := .ty "list") rfl T.z_list (by decide +kernel) rfl) pa_nil))) pa_nil))) (fun _ => rfl))
     (pss_cons (ps_if (PW.pt (pw_or (pt_cmpR (o_ne hr.units) (pe_callB c_isinstance rfl T.z_isinstance (by decide +kernel) (pa_cons (pv 1) (pa_cons (pe_bltn (v := .ty "tuple") rfl T.z_tuple (by decide +kernel) rfl) pa_nil))) (pe_callB c_isinstance rfl T.z_isinstance (by decide +kernel) (pa_cons (pv 0) (pa_cons (pe_bltn (v := .ty "tuple") rfl T.z_tuple (by decide +kernel) rfl) pa_nil))) (nomark _)) (pw_or1 (pt_cmpR (o_ne hr.units) (pe_callB c_isinstance rfl T.z_isinstance (by decide +kernel) (pa_cons (pv 1) (pa_cons (pe_bltn (v := .ty "list") rfl T.z_list (by decide +kernel) rfl) pa_nil))) (pe_callB c_isinstance rfl T.z_isinstance (by decide +kernel) (pa_cons (pv 0) (pa_cons (pe_bltn (v := .ty "list") rfl T.z_list (by decide +kernel) rfl) pa_nil))) (nomark _)))))
     (pss_one (ps_ret pe_bl))
     pss_nil)
    (pss_cons (ps_if (pt_cmpR (o_ne hr.units) (pe_callB (c_len (K := K)) rfl T.z_len (by decide +kernel) (pa_cons (pv 0) pa_nil)) (pe_callB (c_len (K := K)) rfl T.z_len (by decide +kernel) (pa_cons (pv 1) pa_nil)) (nomark _))
     (pss_one (ps_ret pe_bl))
     pss_nil)
    (pss_one (ps_ret (pe_callB (c_all rfl) rfl T.z_all (by decide +kernel) (pa_cons (pe_comp ["_law_found", "_law_due", "_law_k"] [some 0, some 1, none] rfl (by kernel_rfl) rfl (pi_range1 rfl T.z_range (pa_cons (pe_callB (c_len (K := K)) rfl T.z_len (by decide +kernel) (pa_cons (pv 1) pa_nil)) pa_nil)) (fun _ _ _ _ => (pg_name (i := 2) (show (["_law_found", "_law_due", "_law_k"] : List Str).Nodup by decide +kernel) rfl (Or.inl rfl) (Or.inr rfl))) (fun _ _ _ _ => pts_nil) (fun _ _ _ _ => (pe_callD D_law_alike (hr.mono (by first | decide | omega)) rfl (pa_cons (pe_ix (ix_any (K := K)) (pv 0) (pv 2) (fun _ _ => rfl)) (pa_cons (pe_ix (ix_any (K := K)) (pv 1) (pv 2) (fun _ _ => rfl)) pa_nil))))) pa_nil))))))
     pss_nil)
    (pss_cons (ps_if (PW.pt (pw_or (pt_cmpR o_is (pv 1) pe_non (nomark _)) (pw_or1 (pt_cmpR o_is (pv 0) pe_non (nomark _)))))
     (pss_one (ps_ret (pe_and (pe_cmpR o_is (pv 1) pe_non (nomark _)) (pe_one (pe_cmpR o_is (pv 0) pe_non (nomark _))))))
     pss_nil)
    (pss_cons (ps_if (PW.pt (pw_or (pt_tru (pe_callB c_isinstance rfl T.z_isinstance (by decide +kernel) (pa_cons (pv 1) (pa_cons (pe_bltn (v := .ty "bool") rfl T.z_bool (by decide +kernel) rfl) pa_nil))) (fun _ => rfl)) (pw_or1 (pt_tru (pe_callB c_isinstance rfl T.z_isinstance (by decide +kernel) (pa_cons (pv 0) (pa_cons (pe_bltn (v := .ty "bool") rfl T.z_bool (by decide +kernel) rfl) pa_nil))) (fun _ => rfl)))))
     (pss_one (ps_ret (pe_and (pe_callB c_isinstance rfl T.z_isinstance (by decide +kernel) (pa_cons (pv 1) (pa_cons (pe_bltn (v := .ty "bool") rfl T.z_bool (by decide +kernel) rfl) pa_nil))) (pe_and (pe_callB c_isinstance rfl T.z_isinstance (by decide +kernel) (pa_cons (pv 0) (pa_cons (pe_bltn (v := .ty "bool") rfl T.z_bool (by decide +kernel) rfl) pa_nil))) (pe_one (pe_cmpR (o_eq hr.units) (pv 0) (pv 1) (nomark _)))))))
     pss_nil)
    (pss_cons (ps_if (pt_tru (pe_callB c_isinstance rfl T.z_isinstance (by decide +kernel) (pa_cons (pv 1) (pa_cons (pe_bltn (v := .ty "str") rfl T.z_str (by decide +kernel) rfl) pa_nil))) (fun _ => rfl))
     (pss_one (ps_ret (pe_and (pe_callB c_isinstance rfl T.z_isinstance (by decide +kernel) (pa_cons (pv 0) (pa_cons (pe_bltn (v := .ty "str") rfl T.z_str (by decide +kernel) rfl) pa_nil))) (pe_one (pe_cmpR (o_eq hr.units) (pv 0) (pv 1) (nomark _))))))
     pss_nil)
    (pss_one (ps_ret (pe_and (pe_callB c_isinstance rfl T.z_isinstance (by decide +kernel) (pa_cons (pv 0) (pa_cons (pe_bltn (v := .ty "int") rfl T.z_int (by decide +kernel) rfl) pa_nil))) (pe_one (pe_cmpR (o_eq hr.units) (pv 0) (pv 1) (nomark _)))))))))), ?_⟩
    rw [show L2.start ["_law_found", "_law_due"] [u, v] = [some (u), some (v)] from rfl]
    walk_at "go"
    intro p hp
    walk_at "go"
    have s1 : Same H (upd H p (.tup [.ty "tuple", .ty "list"])) := same_new hp _
    have hu1 := Is.same s1 hu
    have hv1 := Is.same s1 hv
    cases d with
    | non =>
      simp only [Is] at hu hv
      subst hu hv
      refine i_isi2 (t := "NoneType") (T := "tuple") (T' := "list") rfl upd_same ⟨rfl, rfl⟩ ?_
      walk_at "go"
      exact q _ s1
    | bl b =>
      simp only [Is] at hu hv
      subst hu hv
      refine i_isi2 (t := "bool") (T := "tuple") (T' := "list") rfl upd_same ⟨rfl, rfl⟩ ?_
      walk_at "go"
      rw [decide_eq_true rfl]
      exact q _ s1
    | int i =>
      simp only [Is] at hu hv
      subst hu hv
      refine i_isi2 (t := "int") (T := "tuple") (T' := "list") rfl upd_same ⟨rfl, rfl⟩ ?_
      walk_at "go"
      rw [decide_eq_true rfl]
      exact q _ s1
    | str x =>
      simp only [Is] at hu hv
      subst hu hv
      refine i_isi2 (t := "str") (T := "tuple") (T' := "list") rfl upd_same ⟨rfl, rfl⟩ ?_
      walk_at "go"
      rw [decide_eq_true rfl]
      exact q _ s1
    | tup ds =>
      simp only [Is] at hu1 hv1
      obtain ⟨a, xs, rfl, ha, hxs⟩ := hu1
      obtain ⟨b, ys, rfl, hb, hys⟩ := hv1
      have l1 := hxs.length
      have l2 := hys.length
      simp only [wid, dep] at hw hd
      refine i_isi2 (t := "tuple") (T := "tuple") (T' := "list") (tyN_tup hb) upd_same ⟨rfl, rfl⟩ ?_
      walk_at "go"
      refine iteBF (by rw [l1, l2, decide_eq_true rfl]; rfl) ?_
      have hl3 : (ys.length : Int) ≤ 100000 := by omega
      walk_at "go"
      intro r hr0
      have s2 : Same (upd H p (.tup [.ty "tuple", .ty "list"])) (upd (upd H p (.tup [.ty "tuple", .ty "list"])) r (.lst [])) := same_new hr0 _
      refine comp_range (fun i acc σ H' => ∃ v, σ = [some (.ref a), some (.ref b), v] ∧ acc = (List.replicate i true).map V.bl ∧ Same (upd H p (.tup [.ty "tuple", .ty "list"])) H' ∧ H' r = some (.lst acc))
        ⟨none, rfl, rfl, s2, upd_same⟩ (fun i acc σ H' ⟨_, _, e, _, e2⟩ => ⟨e2, by rw [e]; simp⟩) (szn (by omega)) ?_ ?_
      · rintro i acc σ H' hi ⟨v, rfl, rfl, s3, e3⟩
        have hi' : i < ds.length := by omega
        obtain ⟨x, d, hx, hd1, hI⟩ := IsL.get (IsL.same s3 hxs) hi'
        obtain ⟨y, d', hy, hd2, hJ⟩ := IsL.get (IsL.same s3 hys) hi'
        rw [hd1] at hd2
        cases hd2
        have hax := s3 _ _ ha
        have hby := s3 _ _ hb
        walk_at "go"
        refine i_ixR (seqR_tup hax) (atI_of (by omega) (by simpa using hx)) ?_
        walk_at "go"
        refine i_ixR (seqR_tup hby) (atI_of (by omega) (by simpa using hy)) ?_
        walk_at "go"
        have hdd := dep_get hd1
        have hww := wid_get hd1
        refine ⟨x, y, d, rfl, hI, hJ, by omega, by omega, fun H4 s4 => ⟨s4 _ _ e3, ?_⟩⟩
        refine ⟨_, rfl, ?_, fun c o e => ?_, upd_same⟩
        · rw [List.replicate_succ', List.map_append]; rfl
        · have hcr : c ≠ r := fun z => by rw [z, hr0] at e; cases e
          rw [upd_ne hcr]
          exact s4 _ _ (s3 _ _ e)
      · rintro acc σ H' ⟨v, rfl, rfl, s3, e3⟩
        walk_at "go"
        refine i_allL (lstR_of e3) ?_
        walk_at "go"
        have e : (List.replicate (0 + (ys.length : Int) - 0).toNat true).all id = true := by simp
        simp only [List.all_replicate]
        have e5 : ∀ k : Nat, (if k = 0 then true else id true) = true := fun k => by split <;> rfl
        rw [e5]
        exact q _ fun c o k => s3 _ _ (s1 _ _ k)
    | lst ds =>
      simp only [Is] at hu1 hv1
      obtain ⟨a, xs, rfl, ha, hxs⟩ := hu1
      obtain ⟨b, ys, rfl, hb, hys⟩ := hv1
      have l1 := hxs.length
      have l2 := hys.length
      simp only [wid, dep] at hw hd
      refine i_isi2 (t := "list") (T := "tuple") (T' := "list") (tyN_lst hb) upd_same ⟨rfl, rfl⟩ ?_
      walk_at "go"
      refine iteBF (by rw [l1, l2, decide_eq_true rfl]; rfl) ?_
      have hl3 : (ys.length : Int) ≤ 100000 := by omega
      walk_at "go"
      intro r hr0
      have s2 : Same (upd H p (.tup [.ty "tuple", .ty "list"])) (upd (upd H p (.tup [.ty "tuple", .ty "list"])) r (.lst [])) := same_new hr0 _
      refine comp_range (fun i acc σ H' => ∃ v, σ = [some (.ref a), some (.ref b), v] ∧ acc = (List.replicate i true).map V.bl ∧ Same (upd H p (.tup [.ty "tuple", .ty "list"])) H' ∧ H' r = some (.lst acc))
        ⟨none, rfl, rfl, s2, upd_same⟩ (fun i acc σ H' ⟨_, _, e, _, e2⟩ => ⟨e2, by rw [e]; simp⟩) (szn (by omega)) ?_ ?_
      · rintro i acc σ H' hi ⟨v, rfl, rfl, s3, e3⟩
        have hi' : i < ds.length := by omega
        obtain ⟨x, d, hx, hd1, hI⟩ := IsL.get (IsL.same s3 hxs) hi'
        obtain ⟨y, d', hy, hd2, hJ⟩ := IsL.get (IsL.same s3 hys) hi'
        rw [hd1] at hd2
        cases hd2
        have hax := s3 _ _ ha
        have hby := s3 _ _ hb
        walk_at "go"
        refine i_ixR (seqR_lst hax) (atI_of (by omega) (by simpa using hx)) ?_
        walk_at "go"
        refine i_ixR (seqR_lst hby) (atI_of (by omega) (by simpa using hy)) ?_
        walk_at "go"
        have hdd := dep_get hd1
        have hww := wid_get hd1
        refine ⟨x, y, d, rfl, hI, hJ, by omega, by omega, fun H4 s4 => ⟨s4 _ _ e3, ?_⟩⟩
        refine ⟨_, rfl, ?_, fun c o e => ?_, upd_same⟩
        · rw [List.replicate_succ', List.map_append]; rfl
        · have hcr : c ≠ r := fun z => by rw [z, hr0] at e; cases e
          rw [upd_ne hcr]
          exact s4 _ _ (s3 _ _ e)
      · rintro acc σ H' ⟨v, rfl, rfl, s3, e3⟩
        walk_at "go"
        refine i_allL (lstR_of e3) ?_
        walk_at "go"
        have e : (List.replicate (0 + (ys.length : Int) - 0).toNat true).all id = true := by simp
        simp only [List.all_replicate]
        have e5 : ∀ k : Nat, (if k = 0 then true else id true) = true := fun k => by split <;> rfl
        rw [e5]
        exact q _ fun c o k => s3 _ _ (s1 _ _ k)
end
abbrev s_law_letters : Stmt := top 22
theorem sc_law_letters : FnScope ["_law_feed_here", "_law_every", "_law_at"] ["_law_feed_here"] (defScope s_law_letters) := ⟨rfl, rfl, rfl, by decide +kernel, rfl, by decide +kernel, by decide +kernel⟩
abbrev s_law_word : Stmt := top 23
theorem sc_law_word : FnScope ["_law_feed_here", "_law_letters_here", "_law_most"] ["_law_feed_here", "_law_letters_here", "_law_most"] (defScope s_law_word) := ⟨rfl, rfl, rfl, by decide +kernel, rfl, by decide +kernel, by decide +kernel⟩
section
variable {P : Program} {w : World} {K : PySem.W.Frag} {mg : Str → Option Value} {base : Heap} {f : Addr} {fd : FuncData} {tk : Nat → Tok}
theorem ok_law_letters (T : Txt mg tk) (F : Fun K "_law_letters" "_law_letters" s_law_letters f fd) (D_law_next : Dn P w K mg base "_law_next" 1 ["_law_feed_here", "_law_many"] spNext) : FnOk P w K mg base CX0 2 f fd ["_law_feed_here"] spLetters := by
  refine F.ok sc_law_letters (fun vs H Q E h => ?_) (fun cdv A outer s H vs Q E hr h => ?_)
  · obtain ⟨p, n, rfl, _⟩ := h
    rfl
  obtain ⟨p, n, rfl, hf, hn, q⟩ := h
  have nd := sc_law_letters.nd
  refine ⟨_, (pss_cons (ps_set (i := 1) nd rfl (Or.inl rfl) pe_str)
    (pss_cons (ps_if (pt_cmpR (o_eq hr.units) (pe_callD D_law_next (hr.mono (by first | decide | omega)) rfl (pa_cons (pv 0) (pa_cons pe_int pa_nil))) pe_int (nomark _))
     (pss_one (ps_ret (pv 1)))
     pss_nil)
    (pss_cons (ps_set (i := 2) nd rfl (Or.inl rfl) (pe_callD D_law_next (hr.mono (by first | decide | omega)) rfl (pa_cons (pv 0) (pa_cons pe_int pa_nil))))
    (pss_one (ps_ret (pe_slice (sl_any (K := K)) (pv 1) (po_some (pv 2)) (po_some (pe_op o_add (pe_op o_add (pv 2) pe_int) (pe_callD D_law_next (hr.mono (by first | decide | omega)) rfl (pa_cons (pv 0) (pa_cons pe_int pa_nil))))))))))), ?_⟩
  rw [show L2.start ["_law_feed_here", "_law_every", "_law_at"] [.ref p] = [some (.ref p), none, none] from rfl]
  rw [t_let]
  walk_at "go"
  refine ⟨p, 8, n, rfl, hf, by omega, by decide, by decide, fun d H1 hd0 hd1 hf1 o1 => ?_⟩
  walk_at "go"
  refine iteD (fun c => ?_) (fun c => ?_)
  · walk_at "go"
    exact q LETL H1 low_LETL (by decide) (by decide) (hf1.mono (by omega)) o1
  · walk_at "go"
    refine ⟨p, 23, n + 1, rfl, hf1, by omega, by decide, by decide, fun at_ H2 ha0 ha1 hf2 o2 => ?_⟩
    walk_at "go"
    refine ⟨p, 3, n + 1 + 1, rfl, hf2, by omega, by decide, by decide, fun d3 H3 hb0 hb1 hf3 o3 => ?_⟩
    walk_at "go"
    rw [slice_S]
    have hl : LETL.length = 26 := rfl
    have hc := cut_length LETL (some at_) (some (at_ + 2 + d3))
    rw [hl] at hc
    have e1 : sx 26 0 (some at_) = at_.toNat := by simp only [sx]; rw [if_neg (by omega)]; omega
    have e2 : sx 26 26 (some (at_ + 2 + d3)) = min (at_ + 2 + d3).toNat 26 := by simp only [sx]; rw [if_neg (by omega)]
    rw [e1, e2] at hc
    exact q _ H3 (Low_cut low_LETL _ _) (by omega) (by omega) (hf3.mono (by omega)) ((o1.trans o2).trans o3)
theorem ok_law_word (T : Txt mg tk) (F : Fun K "_law_word" "_law_word" s_law_word f fd) (D_law_next : Dn P w K mg base "_law_next" 1 ["_law_feed_here", "_law_many"] spNext) : FnOk P w K mg base CX0 2 f fd ["_law_feed_here", "_law_letters_here", "_law_most"] spWord := by
  refine F.ok sc_law_word (fun vs H Q E h => ?_) (fun cdv A outer s H vs Q E hr h => ?_)
  · obtain ⟨p, n, l, m, rfl, _⟩ := h
    rfl
  obtain ⟨p, n, l, m, rfl, hf, hn, hl, hl1, hl2, hm1, hm2, q⟩ := h
  have nd := sc_law_word.nd
  refine ⟨_, (pss_one (ps_ret (pe_bmK (K := K) PySem.F.plainAttrs_str PySem.F.slot_str_join PySem.F.type_str_join m_join1 pe_str (pa_cons (pe_comp ["_law_letters_here", "_law_feed_here", "_law_k"] [some 1, some 0, none] rfl (by kernel_rfl) rfl (pi_range1 rfl T.z_range (pa_cons (pe_op o_add pe_int (pe_callD D_law_next (hr.mono (by first | decide | omega)) rfl (pa_cons (pv 0) (pa_cons (pv 2) pa_nil)))) pa_nil)) (fun _ _ _ _ => (pg_name (i := 2) (show (["_law_letters_here", "_law_feed_here", "_law_k"] : List Str).Nodup by decide +kernel) rfl (Or.inl rfl) (Or.inr rfl))) (fun _ _ _ _ => pts_nil) (fun _ _ _ _ => (pe_ix (ix_any (K := K)) (pv 0) (pe_callD D_law_next (hr.mono (by first | decide | omega)) rfl (pa_cons (pv 1) (pa_cons (pe_callB (c_len (K := K)) rfl T.z_len (by decide +kernel) (pa_cons (pv 0) pa_nil)) pa_nil))) (fun _ _ => rfl)))) pa_nil)))), ?_⟩
  rw [show L2.start ["_law_feed_here", "_law_letters_here", "_law_most"] [.ref p, .str (S l), .int (m : Int)] = [some (.ref p), some (.str (S l)), some (.int (m : Int))] from rfl]
  rw [t_empty]
  walk_at "go"
  refine ⟨p, m, n, rfl, hf, by omega, by omega, by omega, fun d H1 hd0 hd1 hf1 o1 => ?_⟩
  walk_at "go"
  intro r hr0
  have k1 : Kept p H (upd H1 r (.lst [])) := o1.kept.new hr0 _
  have pr : p ≠ r := by
    obtain ⟨o, e⟩ := hf1.some
    exact ne_of_none e hr0
  refine comp_range (fun i acc σ H' => ∃ (v : Option V) (ws : List Nat), σ = [some (.str (S l)), some (.ref p), v] ∧ acc = (ws.map fun c => V.str (S [c])) ∧ ws.length = i ∧ Low ws ∧ FeedAt H' p (n + 1 + i) ∧ Kept p H H' ∧ H' r = some (.lst acc))
    ⟨none, [], rfl, rfl, rfl, (fun c hc => nomatch hc), hf1.new hr0, k1, upd_same⟩ (fun i acc σ H' ⟨_, ws, _, e, e1, _, _, _, e2⟩ => ⟨e2, by rw [e, List.length_map]; omega⟩) (szn (by omega)) ?_ ?_
  · rintro i acc σ H' hi ⟨v, ws, rfl, rfl, hw1, hw2, hf2, k2, e2⟩
    have hll : (S l).length ≤ sizeLine := szn (by rw [S_length]; omega)
    walk_at "go"
    refine ⟨p, _, n + 1 + i, rfl, hf2, by omega, by omega, by omega, fun c H3 hc0 hc1 hf3 o3 => ?_⟩
    have hcl : c.toNat < l.length := by omega
    refine i_ixS (c := l[c.toNat]) hll (atI_of hc0 (by rw [S_cps]; simp [hcl])) ?_
    have e3 : H3 r = some (.lst (ws.map fun c => V.str (S [c]))) := (o3 r pr.symm).trans e2
    refine ⟨e3, _, ws ++ [l[c.toNat]], rfl, by rw [List.map_append]; rfl, by rw [List.length_append, hw1]; rfl, Low_append hw2 (fun x hx => ?_), ?_, ?_, upd_same⟩
    · have : x = l[c.toNat] := by simpa using hx
      rw [this]
      exact hl _ (List.getElem_mem _)
    · obtain ⟨a1, b1, c1, g1, g2⟩ := hf3
      exact ⟨a1, b1, c1, by rw [upd_ne pr]; exact g1, g2⟩
    · intro b o hb e
      have hbr : b ≠ r := fun z => by
        subst z
        have := k1
        by_cases hz : H b = none
        · rw [hz] at e; cases e
        · have e4 := o1 b hb
          rw [hr0] at e4
          exact hz e4.symm
      rw [upd_ne hbr]
      exact (o3 b hb).trans (k2 b o hb e)
  · rintro acc σ H' ⟨v, ws, rfl, rfl, hw1, hw2, hf2, k2, e2⟩
    walk_at "go"
    have hs := sum_one ws
    refine i_join (ys := ws.map fun c => S [c]) (by rw [← map_one]; exact lstR_of e2) ?_ ?_
    · rw [hs, List.length_map, S_length]
      simp only [List.length_nil, Nat.mul_zero]
      omega
    · rw [joined_one]
      walk_at "go"
      exact q ws H' hw2 (by omega) (by omega) (hf2.mono (by omega)) k2
end
structure Ow (K : PySem.W.Frag) (mg : Str → Option Value) (cO : Addr) : Prop where
  m_Breaker : mg "Breaker" = some (.ref cO)
  cl : Cls K cO
  n_told_gaps : NoAttr K cO "told_gaps"
  n_patterns : NoAttr K cO "patterns"
  n_head : NoAttr K cO "head"
  n_tail : NoAttr K cO "tail"
abbrev s_Breaker_init : Stmt := inClass (top 17) 0
theorem sc_Breaker_init : FnScope ["self", "patterns", "told", "head", "tail"] ["self", "patterns", "told", "head", "tail"] (defScope s_Breaker_init) := ⟨rfl, rfl, rfl, by decide +kernel, rfl, by decide +kernel, by decide +kernel⟩
abbrev s_Breaker_gaps : Stmt := inClass (top 17) 1
theorem sc_Breaker_gaps : FnScope ["self", "word", "last"] ["self", "word"] (defScope s_Breaker_gaps) := ⟨rfl, rfl, rfl, by decide +kernel, rfl, by decide +kernel, by decide +kernel⟩
abbrev s_Breaker_shown : Stmt := inClass (top 17) 2
theorem sc_Breaker_shown : FnScope ["self", "word"] ["self", "word"] (defScope s_Breaker_shown) := ⟨rfl, rfl, rfl, by decide +kernel, rfl, by decide +kernel, by decide +kernel⟩
abbrev s_gaps_by_word : Stmt := top 16
theorem sc_gaps_by_word : FnScope ["told", "known", "word", "gaps"] ["told"] (defScope s_gaps_by_word) := ⟨rfl, rfl, rfl, by decide +kernel, rfl, by decide +kernel, by decide +kernel⟩
theorem i_dput {td ty tv : TE} {D : Ends} {σ : St} {H : Hp} (h : tv σ H fun v H1 => td σ H1 fun x H2 => ty σ H2 fun y H3 => ∃ a H4, x = .ref a ∧ DPut H3 a y v H4 ∧ D.nx σ H4) : sDPut td ty tv D σ H := h
theorem i_dnewK {σ : St} {H : Hp} {Q : VK} (h : ∀ p, H p = none → Q (.ref p) (upd H p (.dK []))) : tDNewK σ H Q := h
theorem putK_new {kvs : List (Key × V)} {k : Key} {v : V} (h : (kvs.any fun kv => decide (kv.1 = k)) = false) : putK kvs k v = kvs ++ [(k, v)] := by
  unfold putK
  rw [h]; rfl
/-- words with their gaps, as a table; or the first word that stands ahead already -/
def spGbwX (C : Addr) : Sp := fun vs H Q E => ∃ (b : Addr) (ys : List V) (xs : List Pat), vs = [.ref b] ∧ H b = some (.lst ys) ∧ L2.IsL H ys (xs.map patD) ∧ xs.length ≤ 1000 ∧ (∀ x ∈ xs, x.1.length ≤ 1000) ∧
  ((xs.map (·.1)).Nodup → ∀ (a : Addr) (kvs : List (Key × V)) (H' : Hp), H a = none → H' a = some (.dK kvs) → NT H' kvs xs → Same H H' → Q (.ref a) H') ∧
  ∀ (i : Nat) (x : Pat), xs[i]? = some x → ((xs.take i).map (·.1)).Nodup → x.1 ∈ (xs.take i).map (·.1) → ∀ e d H', H' e = some (XO e C (some d) false) → H' d = some (.xd [("word", .str (S x.1))]) → Same H H' → E (.ref e) (some d) H'
theorem look_none {gs : List Pat} {z : List Nat} (h : lookP gs z = none) : (gs.any fun g => decide (g.1 = z)) = false := by
  rw [List.any_eq_false]
  intro g hg
  have := List.find?_eq_none.mp h g hg
  exact this
theorem nodup_step {xs : List Pat} {i : Nat} (hi : i < xs.length) (h : ((xs.take i).map (·.1)).Nodup) (hn : ((xs.take i).any fun g => decide (g.1 = xs[i].1)) = false) : ((xs.take (i + 1)).map (·.1)).Nodup := by
  rw [List.take_succ, List.getElem?_eq_getElem hi, List.map_append, List.nodup_append]
  refine ⟨h, by simp, fun a ha b hb => ?_⟩
  have hb : b = xs[i].1 := by simpa using hb
  rw [hb]
  intro e
  obtain ⟨g, hg, rfl⟩ := List.mem_map.mp ha
  rw [List.any_eq_false] at hn
  exact hn g hg (by simpa using e)
section
variable {P : Program} {w : World} {K : PySem.W.Frag} {mg : Str → Option Value} {base : Heap} {f : Addr} {fd : FuncData} {tk : Nat → Tok} {cO : Addr} {ad : Nat → Addr}
theorem ok_gaps_by_word (T : Txt mg tk) (Z : Cs K mg ad) (F : Fun K "gaps_by_word" "gaps_by_word" s_gaps_by_word f fd) (D_Twice_init : Ini P w K mg base (ad 5) 1 ["self", "word"] (spIni okTx (ad 5) "word")) : FnOk P w K mg base (CXx P w) 3 f fd ["told"] (spGbwX (ad 5)) := by
  refine F.okX sc_gaps_by_word (fun vs H Q E h => ?_) (fun cdv A outer s H vs Q E hr h => ?_)
  · obtain ⟨b, ys, xs, rfl, _⟩ := h
    rfl
  obtain ⟨b, ys, xs, rfl, hb, hys, hxl, hxw, q, qe⟩ := h
  have nd := sc_gaps_by_word.nd
  have hyl : ys.length = xs.length := by have := hys.length; simpa using this
  refine ⟨_, (pss_cons (ps_set (i := 1) nd rfl (Or.inl rfl) pe_dnewK)
    (pss_cons (ps_for PassesOwn.leaving rfl (pi_any (K := K) (pv 0)) (pg_tup rfl (pgs_cons (pg_name (i := 2) nd rfl (Or.inl rfl)) (pgs_cons (pg_name (i := 3) nd rfl (Or.inl rfl)) pgs_nil)))
     (pss_cons (ps_if (pt_cmp (pc_din (hu_of hr) (pv 2) (pv 1)))
     (pss_one (ps_raise rfl thr_body (pe_makeI Z.x_Twice D_Twice_init (hr.mono (by first | decide | omega)) rfl Z.m_Twice (pa_cons (pv 2) pa_nil))))
     pss_nil)
    (pss_one (ps_dput (hu_of hr) (pv 1) (pv 2) (pv 3) rfl))))
    (pss_one (ps_ret (pv 1))))), ?_⟩
  rw [show L2.start ["told", "known", "word", "gaps"] [.ref b] = [some (.ref b), none, none, none] from rfl]
  have throw : ∀ (i : Nat) (x0 : Pat) (H2 : Hp), xs[i]? = some x0 → ((xs.take i).map (·.1)).Nodup → x0.1 ∈ (xs.take i).map (·.1) → Same H H2 → ∀ x d, H2 x = none → H2 d = none → d ≠ x →
      ∃ (x' C' W' : Addr) (od : Option Addr), V.ref x = .ref x' ∧ (upd (upd H2 d (.xd [("word", .str (S x0.1))])) x (XO x (ad 5) (some d) true)) x' = some (XO x' C' od true) ∧ Exc K W' C' ∧ E (.ref x') od (upd (upd (upd H2 d (.xd [("word", .str (S x0.1))])) x (XO x (ad 5) (some d) true)) x' (XO x' C' od false)) := fun i x0 H2 hi hnd hmem s2 x d hx hd hne => by
    refine ⟨x, ad 5, ad 0, some d, rfl, upd_same, Z.x_Twice, qe i x0 hi hnd hmem x d _ upd_same ?_ ?_⟩
    · rw [upd_ne hne, upd_ne hne, upd_same]
    · rw [upd_upd]
      exact (s2.trans (same_new hd _)).trans (same_new (by rw [upd_ne (Ne.symm hne)]; exact hx) _)
  walk_at "go"
  refine i_dnewK fun a ha => ?_
  have s1 := same_new ha (.dK [])
  walk_at "go"
  refine i_anyL (SqL.of (s1 _ _ hb)) ?_
  refine for_list (K := K) (xs := ys) (fun i σ H' => ∃ (v2 v3 : Option V) (kvs : List (Key × V)), σ = [some (.ref b), some (.ref a), v2, v3] ∧ H' a = some (.dK kvs) ∧ NT H' kvs (xs.take i) ∧ kvs.length = i ∧ ((xs.take i).map (·.1)).Nodup ∧ Same H H')
    ⟨none, none, [], rfl, upd_same, trivial, rfl, List.nodup_nil, s1⟩ (fun i σ H' _ ⟨_, _, _, _, _, _, _, _, s⟩ => SqL.of (s _ _ hb)) ?_ ?_
  · rintro i y σ H2 hy ⟨v2, v3, kvs, rfl, e2, hN, hkl, hnd, s2⟩
    have hi : i < xs.length := by
      have := (List.getElem?_eq_some_iff.mp hy).1
      omega
    obtain ⟨y', d, hy', hd1, hI⟩ := IsL.get (IsL.same s2 hys) (show i < (xs.map patD).length by simpa using hi)
    rw [hy] at hy'
    cases hy'
    rw [List.getElem?_map, List.getElem?_eq_getElem hi] at hd1
    cases hd1
    obtain ⟨a2, t2, rfl, ea2, et2⟩ := isPat hI
    refine i_gtup ea2 rfl (i_gcons (i_name (i_gcons (i_name (i_gnil ?_)))))
    walk_at "go"
    refine i_tB (i_din ?_)
    walk_at "go"
    refine ⟨a, _, rfl, DGet.k (k := Sum.inr (S xs[i].1)) e2, ?_⟩
    rcases hN.val (z := xs[i].1) with ⟨q1, q2⟩ | ⟨g, t, q1, hgm, hgz, q2, q3⟩
    · have hnew := look_none q1
      rw [q2]
      walk_at "go"
      refine i_dput ?_
      walk_at "go"
      refine ⟨a, _, rfl, DPut.k (k := Sum.inr (S xs[i].1)) e2 (Nat.lt_of_le_of_lt (show kvs.length ≤ 1000 by omega) (by decide)), ?_⟩
      have hputE : putK kvs (Sum.inr (S xs[i].1) : Key) (V.ref t2) = kvs ++ [(Sum.inr (S xs[i].1), .ref t2)] := putK_new (by rw [hN.anyK]; exact hnew)
      refine ⟨_, _, _, rfl, upd_same, ?_, ?_, nodup_step hi hnd hnew, fun c o e => ?_⟩
      · rw [List.take_succ, List.getElem?_eq_getElem hi, hputE]
        exact NT.tups (fun b' zs e => by
          have hb' : b' ≠ a := fun z => by rw [z, e2] at e; cases e
          rw [upd_ne hb']; exact e) (NT.append hN ⟨rfl, ⟨t2, rfl, et2⟩, trivial⟩)
      · rw [hputE, List.length_append]; simp [hkl]
      · have hc : c ≠ a := fun z => by rw [z, ha] at e; cases e
        rw [upd_ne hc]; exact s2 c o e
    · rw [q2]
      walk_at "go"
      refine i_raise (i_makeX ?_)
      walk_at "go"
      exact mk_ini (.inr ⟨_, rfl, by rw [S_length]; exact hxw _ (List.getElem_mem hi)⟩) fun x d hx hd hne => throw i xs[i] _ (List.getElem?_eq_getElem hi) hnd (List.mem_map.mpr ⟨g, hgm, hgz⟩) s2 x d hx hd hne
  · rintro σ H2 ⟨v2, v3, kvs, rfl, e2, hN, hkl, hnd, s2⟩
    rw [hyl, List.take_length] at hN hnd
    walk_at "go"
    exact q hnd a kvs H2 ha e2 hN s2
end
/-- a breaker, or the word that is told twice -/
def spBrkIX (C TW : Addr) : Sp := fun vs H Q E => ∃ (p a b dx : Addr) (ya yb : List V) (told : List Pat) (hd tl : Int), vs = [.ref p, .ref a, .ref b, .int hd, .int tl] ∧ H p = some (.ins C dx []) ∧ H a = some (.lst ya) ∧ H b = some (.lst yb) ∧ ya.length ≤ 1000 ∧ L2.IsL H yb (told.map patD) ∧ told.length ≤ 1000 ∧ (∀ x ∈ told, x.1.length ≤ 1000) ∧
  ((told.map (·.1)).Nodup → ∀ H' : Hp, (∀ b o, b ≠ p → H b = some o → H' b = some o) → Q .non H') ∧
  ∀ (i : Nat) (x : Pat), told[i]? = some x → ((told.take i).map (·.1)).Nodup → x.1 ∈ (told.take i).map (·.1) → ∀ e d H', H' e = some (XO e TW (some d) false) → H' d = some (.xd [("word", .str (S x.1))]) → Same H H' → E (.ref e) (some d) H'
section
variable {P : Program} {w : World} {K : PySem.W.Frag} {mg : Str → Option Value} {base : Heap} {f : Addr} {fd : FuncData} {tk : Nat → Tok} {cO TW : Addr}
theorem ok_Breaker_init (T : Txt mg tk) (O : Ow K mg cO) (F : Fun K "__init__" "Breaker.__init__" s_Breaker_init f fd) (D_gaps_by_word : DnX P w K mg base "gaps_by_word" 3 ["told"] (spGbwX TW)) : FnOk P w K mg base (CXx P w) 4 f fd ["self", "patterns", "told", "head", "tail"] (spBrkIX cO TW) := by
  refine F.okX sc_Breaker_init (fun vs H Q E h => ?_) (fun cdv A outer s H vs Q E hr h => ?_)
  · obtain ⟨p, a, b, dx, ya, yb, told, hd, tl, rfl, _⟩ := h
    rfl
  obtain ⟨p, a, b, dx, ya, yb, told, hd, tl, rfl, hp, ha, hb, hya, hyb, ht1, ht2, q, qe⟩ := h
  have nd := sc_Breaker_init.nd
  refine ⟨_, (pss_cons (ps_fld (pv 0) (pe_callX D_gaps_by_word (hr.mono (by first | decide | omega)) rfl (pass_body (fun _ _ _ z => z)) (pa_cons (pv 2) pa_nil)) rfl)
    (pss_cons (ps_fld (pv 0) (pe_callTy c_list rfl T.z_list (by decide +kernel) (pa_cons (pv 1) pa_nil)) rfl)
    (pss_cons (ps_fld (pv 0) (pv 3) rfl)
    (pss_one (ps_fld (pv 0) (pv 4) rfl))))), ?_⟩
  rw [show L2.start ["self", "patterns", "told", "head", "tail"] [.ref p, .ref a, .ref b, .int hd, .int tl] = [some (.ref p), some (.ref a), some (.ref b), some (.int hd), some (.int tl)] from rfl]
  refine i_seq (i_fldS ?_)
  walk_at "go"
  refine ⟨b, yb, told, rfl, hb, hyb, ht1, ht2, fun hnd kd kvs H2 hkd ekd hN s2 => ?_, qe⟩
  have hp2 := s2 _ _ hp
  walk_at "go"
  refine i_fld2 hp2 O.cl O.n_told_gaps (by decide) ?_
  have d2 := Dat.ins hp2 (.ins cO dx (putF ("told_gaps" : Str) (.ref kd) []))
  have d02 := s2.dat.trans d2
  have e2 := upd_same (H := H2) (a := p) (o := .ins cO dx (putF ("told_gaps" : Str) (.ref kd) []))
  have o2 := off_upd (p := p) (x := .ins cO dx (putF ("told_gaps" : Str) (.ref kd) [])) (fun b o _ e => s2 b o e)
  generalize upd H2 p (.ins cO dx (putF ("told_gaps" : Str) (.ref kd) [])) = H3 at d02 e2 o2 ⊢
  walk_at "go"
  refine i_seq (i_fldS ?_)
  walk_at "go"
  refine i_listR (seqR_lst (d02.1 _ _ ha)) fun ld hld => ?_
  have s4 := same_new hld (.lst ya)
  generalize upd H3 ld (.lst ya) = H4 at s4 ⊢
  walk_at "go"
  refine i_fld2 (s4 _ _ e2) O.cl O.n_patterns (show 1 < 1000 by decide) ?_
  have e4 := upd_same (H := H4) (a := p) (o := .ins cO dx (putF ("patterns" : Str) (.ref ld) (putF ("told_gaps" : Str) (.ref kd) [])))
  have o4 := off_upd (p := p) (x := .ins cO dx (putF ("patterns" : Str) (.ref ld) (putF ("told_gaps" : Str) (.ref kd) []))) (off_new o2 s4)
  generalize upd H4 p (.ins cO dx (putF ("patterns" : Str) (.ref ld) (putF ("told_gaps" : Str) (.ref kd) []))) = H5 at e4 o4 ⊢
  walk_at "go"
  refine i_seq (i_fldS ?_)
  walk_at "go"
  refine i_fld2 e4 O.cl O.n_head (show 2 < 1000 by decide) ?_
  have e5 := upd_same (H := H5) (a := p) (o := .ins cO dx (putF ("head" : Str) (.int hd) (putF ("patterns" : Str) (.ref ld) (putF ("told_gaps" : Str) (.ref kd) []))))
  have o5 := off_upd (p := p) (x := .ins cO dx (putF ("head" : Str) (.int hd) (putF ("patterns" : Str) (.ref ld) (putF ("told_gaps" : Str) (.ref kd) [])))) o4
  generalize upd H5 p (.ins cO dx (putF ("head" : Str) (.int hd) (putF ("patterns" : Str) (.ref ld) (putF ("told_gaps" : Str) (.ref kd) [])))) = H6 at e5 o5 ⊢
  walk_at "go"
  refine i_fldS ?_
  walk_at "go"
  refine i_fld2 e5 O.cl O.n_tail (show 3 < 1000 by decide) ?_
  walk_at "go"
  exact q hnd _ (off_upd o5)
end
abbrev s_law_some_gaps : Stmt := top 24
theorem sc_law_some_gaps : FnScope ["_law_feed_here", "_law_word_here", "_law_few"] ["_law_feed_here", "_law_word_here"] (defScope s_law_some_gaps) := ⟨rfl, rfl, rfl, by decide +kernel, rfl, by decide +kernel, by decide +kernel⟩
theorem Rise_snoc : ∀ {b m : Nat} {g : List Nat}, Rise b m g → b < m → Rise b (m + 1) (g ++ [m])
  | b, m, [], _, h => ⟨h, Nat.lt_succ_self _, trivial⟩
  | b, m, x :: g, r, h => ⟨r.1, Nat.lt_succ_of_lt r.2.1, Rise_snoc r.2.2 r.2.1⟩
theorem Rise_mono : ∀ {b m k : Nat} {g : List Nat}, Rise b m g → m ≤ k → Rise b k g
  | b, m, k, [], _, _ => trivial
  | b, m, k, x :: g, r, h => ⟨r.1, Nat.lt_of_lt_of_le r.2.1 h, Rise_mono r.2.2 h⟩
def spSG : Sp := fun vs H Q _ => ∃ (p : Addr) (n : Nat) (w : List Nat), vs = [.ref p, .str (S w)] ∧ FeedAt H p n ∧ n + 40 < feedTop ∧ 1 ≤ w.length ∧ w.length ≤ 20 ∧
  ∀ (t : Addr) (g : List Nat) (H' : Hp), H' t = some (.tup (g.map fun k : Nat => V.int (k : Int))) → Rise 0 w.length g → FeedAt H' p (n + 40) → Kept p H H' → t ≠ p → Q (.ref t) H'
section
variable {P : Program} {w : World} {K : PySem.W.Frag} {mg : Str → Option Value} {base : Heap} {f : Addr} {fd : FuncData} {tk : Nat → Tok} {cO : Addr}
theorem ok_law_some_gaps (T : Txt mg tk) (F : Fun K "_law_some_gaps" "_law_some_gaps" s_law_some_gaps f fd) (D_law_next : Dn P w K mg base "_law_next" 1 ["_law_feed_here", "_law_many"] spNext) : FnOk P w K mg base CX0 2 f fd ["_law_feed_here", "_law_word_here"] spSG := by
  refine F.ok sc_law_some_gaps (fun vs H Q E h => ?_) (fun cdv A outer s H vs Q E hr h => ?_)
  · obtain ⟨p, n, w', rfl, _⟩ := h
    rfl
  obtain ⟨p, n, w', rfl, hf, hn, hw1, hw2, q⟩ := h
  have nd := sc_law_some_gaps.nd
  have hsz : (S w').length ≤ sizeLine := szn (by rw [S_length]; omega)
  refine ⟨_, (pss_cons (ps_set (i := 2) nd rfl (Or.inr rfl) (pe_op o_add pe_int (pe_callD D_law_next (hr.mono (by first | decide | omega)) rfl (pa_cons (pv 0) (pa_cons pe_int pa_nil)))))
    (pss_one (ps_ret (pe_callTy c_tuple rfl T.z_tuple (by decide +kernel) (pa_cons (pe_comp ["_law_feed_here", "_law_few", "_law_gap"] [some 0, some 2, none] rfl (by kernel_rfl) rfl (pi_range2 rfl T.z_range (pa_cons pe_int (pa_cons (pe_callB (c_len (K := K)) rfl T.z_len (by decide +kernel) (pa_cons (pv 1) pa_nil)) pa_nil))) (fun _ _ _ _ => (pg_name (i := 2) (show (["_law_feed_here", "_law_few", "_law_gap"] : List Str).Nodup by decide +kernel) rfl (Or.inl rfl) (Or.inr rfl))) (fun _ _ _ _ => (pts_one (pt_cmpR (o_eq hr.units) (pe_callD D_law_next (hr.mono (by first | decide | omega)) rfl (pa_cons (pv 0) (pa_cons (pv 1) pa_nil))) pe_int (nomark _)))) (fun _ _ _ _ => (pv 2))) pa_nil))))), ?_⟩
  rw [show L2.start ["_law_feed_here", "_law_word_here", "_law_few"] [.ref p, .str (S w')] = [some (.ref p), some (.str (S w')), none] from rfl]
  walk_at "go"
  refine ⟨p, 3, n, rfl, hf, by omega, by decide, by decide, fun few H1 hf0 hf1 hfe1 o1 => ?_⟩
  walk_at "go"
  intro r hr0
  have pr : p ≠ r := by obtain ⟨o, e⟩ := hfe1.some; exact ne_of_none e hr0
  refine comp_range (fun i acc σ H' => ∃ (v : Option V) (g : List Nat), σ = [some (.ref p), some (.int (2 + few)), v] ∧ acc = g.map (fun k : Nat => V.int (k : Int)) ∧ g.length ≤ i ∧ Rise 0 (i + 1) g ∧ FeedAt H' p (n + 1 + i) ∧ Kept p H H' ∧ H' r = some (.lst acc))
    ⟨none, [], rfl, rfl, Nat.le_refl _, trivial, hfe1.new hr0, (o1.kept).new hr0 _, upd_same⟩ (fun i acc σ H' ⟨_, g, _, e, hl, _, _, _, e2⟩ => ⟨e2, by rw [e, List.length_map]; exact hl⟩) (szn (by omega)) ?_ ?_
  · rintro i acc σ H2 hi ⟨v, g, rfl, rfl, hgl, hgr, hf2, k2, e2⟩
    walk_at "go"
    refine ⟨p, 2 + few, n + 1 + i, rfl, hf2, by omega, by omega, by omega, fun d H3 hd0 hd1 hf3 o3 => ?_⟩
    have e3 : H3 r = _ := (o3 r pr.symm).trans e2
    have k3 : Kept p H H3 := k2.trans o3.kept
    have keep : ∀ b o, b ≠ p → H b = some o → b ≠ r := fun b o hb e z => by
      have := o1.kept b o hb e
      rw [z, hr0] at this; cases this
    walk_at "go"
    by_cases c : d = 0
    · rw [if_pos (by rw [c]; exact decide_eq_true rfl)]
      walk_at "go"
      refine ⟨e3, _, g ++ [i + 1], rfl, ?_, by simp; omega, Rise_snoc hgr (by omega), ?_, fun b o hb e => ?_, upd_same⟩
      · rw [List.map_append]
        simp only [List.map_cons, List.map_nil]
        congr 3
        omega
      · obtain ⟨a1, b1, c1, g1, g2⟩ := hf3
        exact ⟨a1, b1, c1, by rw [upd_ne pr]; exact g1, by omega⟩
      · rw [upd_ne (keep b o hb e)]; exact k3 b o hb e
    · rw [if_neg (by rw [decide_eq_false (fun z => c (by injection z))]; exact Bool.false_ne_true)]
      exact ⟨_, g, rfl, rfl, by omega, Rise_mono hgr (by omega), hf3.mono (by omega), k3, e3⟩
  · rintro acc σ H2 ⟨v, g, rfl, rfl, hgl, hgr, hf2, k2, e2⟩
    walk_at "go"
    refine i_tupleR (seqR_lst e2) fun t H3 ht k3 => ?_
    walk_at "go"
    refine q t g H3 ht ?_ ?_ ?_ ?_
    · exact Rise_mono hgr (by omega)
    · obtain ⟨a1, b1, c1, g1, g2⟩ := hf2
      exact ⟨a1, b1, c1, k3 _ _ g1, by omega⟩
    · exact fun b o hb e => k3 _ _ (k2 b o hb e)
    · intro z
      obtain ⟨a1, b1, c1, g1, g2⟩ := hf2
      have := k3 _ _ g1
      rw [← z, ht] at this
      cases this
end
abbrev s_law_told : Stmt := top 25
theorem sc_law_told : FnScope ["_law_feed_here", "_law_letters_here", "_law_first", "_law_told_here", "_law_k", "_law_word_here"] ["_law_feed_here", "_law_letters_here"] (defScope s_law_told) := ⟨rfl, rfl, rfl, by decide +kernel, rfl, by decide +kernel, by decide +kernel⟩
def GW (w : List Nat) : Prop := Low w ∧ 1 ≤ w.length ∧ w.length ≤ 20
def OkT (x : Pat) : Prop := GW x.1 ∧ ∃ g : List Nat, x.2 = g.map (fun k : Nat => (k : Int)) ∧ Rise 0 x.1.length g
theorem FeedAt.ex {H : Hp} {p : Addr} {n : Nat} (h : FeedAt H p n) : ∃ a b c : Int, H p = Option.some (.lst [.int a, .int b, .int c]) := by
  obtain ⟨a, b, c, h1, _⟩ := h
  exact ⟨a, b, c, h1⟩
theorem IsL_mono {H H' : Hp} {r : Addr} {zs : List V} (hn : ∀ b o, H b = some o → b ≠ r → H' b = some o) (hr : H r = some (.lst zs)) : ∀ {xs : List Pat} {ys : List V}, L2.IsL H ys (xs.map patD) → L2.IsL H' ys (xs.map patD)
  | [], [], _ => by simp only [List.map_nil, L2.IsL]
  | [], _ :: _, h => by simp only [List.map_nil, L2.IsL] at h
  | _ :: _, [], h => by simp only [List.map_cons, L2.IsL] at h
  | x :: xs, y :: ys, h => by
    simp only [List.map_cons, L2.IsL] at h ⊢
    refine ⟨?_, IsL_mono hn hr h.2⟩
    obtain ⟨a, t, rfl, h1, h2⟩ := isPat h.1
    exact isPat_mk (hn a _ h1 (ne_of h1 hr (by intro z; cases z))) (hn t _ h2 (ne_of h2 hr (by intro z; cases z)))
theorem flat_strs (l : List Pat) : (l.map fun x => V.str (S x.1)).all flatV = true := by
  rw [List.all_map, List.all_eq_true]; intro x _; rfl
/-- words told -/
structure Tld (H : Hp) (r : Addr) (ys : List V) (told : List Pat) : Prop where
  a : H r = some (.lst ys)
  b : L2.IsL H ys (told.map patD)
theorem Tld.same {H H' : Hp} {r : Addr} {ys : List V} {told : List Pat} (s : Same H H') (h : Tld H r ys told) : Tld H' r ys told := ⟨s _ _ h.a, IsL.same s h.b⟩
theorem Tld.kept {H H' : Hp} {p r : Addr} {n : Nat} {ys : List V} {told : List Pat} (k : Kept p H H') (hf : FeedAt H p n) (h1 : r ≠ p) (h : Tld H r ys told) : Tld H' r ys told := by
  obtain ⟨a, b, c, e⟩ := FeedAt.ex hf
  exact ⟨k _ _ h1 h.a, IsL_mono (fun b o e hb => k b o hb e) e h.b⟩
theorem Tld.len {H : Hp} {r : Addr} {ys : List V} {told : List Pat} (h : Tld H r ys told) : ys.length = told.length := by have := h.b.length; simpa using this
theorem IsL_split {H : Hp} : ∀ {n : Nat} {ds : List Dt} {xs : List V}, L2.IsL H xs ds → L2.IsL H (xs.take n) (ds.take n) ∧ L2.IsL H (xs.drop n) (ds.drop n)
  | 0, _, _, h => ⟨by simp only [List.take_zero, L2.IsL], h⟩
  | n + 1, [], [], h => ⟨h, h⟩
  | n + 1, [], _ :: _, h => by simp only [L2.IsL] at h
  | n + 1, _ :: _, [], h => by simp only [L2.IsL] at h
  | n + 1, d :: ds, x :: xs, h => by
    simp only [L2.IsL] at h
    have ih := IsL_split (n := n) h.2
    refine ⟨?_, ih.2⟩
    simp only [List.take_succ_cons, L2.IsL]
    exact ⟨h.1, ih.1⟩
/-- put in at a place -/
def putAt (told : List Pat) (i : Nat) (x : Pat) : List Pat := told.take i ++ x :: told.drop i
theorem Tld.put {H : Hp} {r y t : Addr} {ys : List V} {told : List Pat} {x : Pat} {i : Nat} (h : Tld H r ys told) (h1 : H y = some (.tup [.str (S x.1), .ref t])) (h2 : H t = some (.tup (x.2.map V.int))) : Tld (upd H r (.lst (ys.take i ++ .ref y :: ys.drop i))) r (ys.take i ++ .ref y :: ys.drop i) (putAt told i x) := by
  refine ⟨upd_same, IsL_mono (fun b o e hb => by rw [upd_ne hb]; exact e) h.a ?_⟩
  have hs := IsL_split (n := i) h.b
  rw [← List.map_take, ← List.map_drop] at hs
  unfold putAt
  rw [List.map_append, List.map_cons]
  refine IsL.append hs.1 ?_
  simp only [L2.IsL]
  exact ⟨isPat_mk h1 h2, hs.2⟩
theorem putAt_len {told : List Pat} {i : Nat} {x : Pat} : (putAt told i x).length = told.length + 1 := by
  unfold putAt
  rw [List.length_append, List.length_cons, List.length_take, List.length_drop]
  omega
theorem putAt_perm {told : List Pat} {i : Nat} {x : Pat} : (putAt told i x).Perm (x :: told) := by
  unfold putAt
  have h := List.perm_middle (a := x) (l₁ := told.take i) (l₂ := told.drop i)
  rw [List.take_append_drop] at h
  exact h
theorem putAt_mem {told : List Pat} {i : Nat} {x y : Pat} : y ∈ putAt told i x ↔ y = x ∨ y ∈ told := by
  rw [putAt_perm.mem_iff, List.mem_cons]
theorem putAt_nodup {told : List Pat} {i : Nat} {x : Pat} : ((putAt told i x).map (·.1)).Nodup ↔ x.1 ∉ told.map (·.1) ∧ (told.map (·.1)).Nodup := by
  rw [(putAt_perm.map (·.1)).nodup_iff, List.map_cons, List.nodup_cons]
theorem pick2 {a b : Nat} {d : Int} (h0 : 0 ≤ d) (h1 : d < 2) : ∃ m : Nat, atI [V.int (a : Int), .int (b : Int)] d = some (.int (m : Int)) ∧ (m = a ∨ m = b) := by
  have hc : d = 0 ∨ d = 1 := by omega
  rcases hc with rfl | rfl
  · exact ⟨a, atI_0 _ _, .inl rfl⟩
  · exact ⟨b, atI_1 _ _ _, .inr rfl⟩
/-- some words told, unlike -/
def spTold : Sp := fun vs H Q _ => ∃ (p : Addr) (n : Nat) (l : List Nat), vs = [.ref p, .str (S l)] ∧ FeedAt H p n ∧ n + 2000 < feedTop ∧ Low l ∧ 1 ≤ l.length ∧ l.length ≤ 26 ∧
  ∀ (r : Addr) (ys : List V) (told : List Pat) (H' : Hp), r ≠ p → H r = none → Tld H' r ys told → 1 ≤ told.length → told.length ≤ 10 → (told.map (·.1)).Nodup → (∀ x ∈ told, OkT x) → FeedAt H' p (n + 2000) → Kept p H H' → Q (.ref r) H'
section
variable {P : Program} {w : World} {K : PySem.W.Frag} {mg : Str → Option Value} {base : Heap} {f : Addr} {fd : FuncData} {tk : Nat → Tok} {cO : Addr} {ad : Nat → Addr}
theorem ok_law_told (T : Txt mg tk) (F : Fun K "_law_told" "_law_told" s_law_told f fd) (D_law_next : Dn P w K mg base "_law_next" 1 ["_law_feed_here", "_law_many"] spNext) (D_law_word : Dn P w K mg base "_law_word" 2 ["_law_feed_here", "_law_letters_here", "_law_most"] spWord) (D_law_some_gaps : Dn P w K mg base "_law_some_gaps" 2 ["_law_feed_here", "_law_word_here"] spSG) : FnOk P w K mg base CX0 3 f fd ["_law_feed_here", "_law_letters_here"] spTold := by
  refine F.ok sc_law_told (fun vs H Q E h => ?_) (fun cdv A outer s H vs Q E hr h => ?_)
  · obtain ⟨p, n, l, rfl, _⟩ := h
    rfl
  obtain ⟨p, n, l, rfl, hf, hn, hl, hl1, hl2, q⟩ := h
  have nd := sc_law_told.nd
  refine ⟨_, (pss_cons (ps_set (i := 2) nd rfl (Or.inl rfl) (pe_callD D_law_word (hr.mono (by first | decide | omega)) rfl (pa_cons (pv 0) (pa_cons (pv 1) (pa_cons pe_int pa_nil)))))
    (pss_cons (ps_set (i := 3) nd rfl (Or.inl rfl) (pe_lst (pa_cons (pe_tup (pa_cons (pv 2) (pa_cons (pe_callD D_law_some_gaps (hr.mono (by first | decide | omega)) rfl (pa_cons (pv 0) (pa_cons (pv 2) pa_nil))) pa_nil))) pa_nil)))
    (pss_cons (ps_for PassesOwn.never rfl (pi_range1 rfl T.z_range (pa_cons (pe_op o_add pe_int (pe_callD D_law_next (hr.mono (by first | decide | omega)) rfl (pa_cons (pv 0) (pa_cons pe_int pa_nil)))) pa_nil)) (pg_name (i := 4) nd rfl (Or.inl rfl))
     (pss_cons (ps_set (i := 5) nd rfl (Or.inl rfl) (pe_callD D_law_word (hr.mono (by first | decide | omega)) rfl (pa_cons (pv 0) (pa_cons (pv 1) (pa_cons (pe_ix (ix_any (K := K)) (pe_lst (pa_cons pe_int (pa_cons pe_int pa_nil))) (pe_callD D_law_next (hr.mono (by first | decide | omega)) rfl (pa_cons (pv 0) (pa_cons pe_int pa_nil))) (fun _ _ => rfl)) pa_nil)))))
    (pss_cons (ps_if (pt_cmpR (o_eq hr.units) (pe_callD D_law_next (hr.mono (by first | decide | omega)) rfl (pa_cons (pv 0) (pa_cons pe_int pa_nil))) pe_int (nomark _))
     (pss_one (ps_set (i := 5) nd rfl (Or.inl rfl) (pe_slice (sl_any (K := K)) (pv 2) po_none (po_some (pe_op o_add pe_int (pe_callD D_law_next (hr.mono (by first | decide | omega)) rfl (pa_cons (pv 0) (pa_cons (pe_callB (c_len (K := K)) rfl T.z_len (by decide +kernel) (pa_cons (pv 2) pa_nil)) pa_nil))))))))
     pss_nil)
    (pss_one (ps_if (pt_cmpR o_notin (pv 5) (pe_comp ["_law_one"] [none] rfl (by kernel_rfl) rfl (pi_any (K := K) (pv 3)) (fun _ _ _ _ => (pg_name (i := 0) (show (["_law_one"] : List Str).Nodup by decide +kernel) rfl (Or.inl rfl) (Or.inr rfl))) (fun _ _ _ _ => pts_nil) (fun _ _ _ _ => (pe_ix (ix_any (K := K)) (pv 0) pe_int (fun _ _ => rfl)))) (by with_unfolding_all rfl))
     (pss_one (ps_expr (pe_bmK (K := K) PySem.F.plainAttrs_list PySem.F.slot_list_insert PySem.F.type_list_insert m_insert2 (pv 3) (pa_cons (pe_callD D_law_next (hr.mono (by first | decide | omega)) rfl (pa_cons (pv 0) (pa_cons (pe_op o_add (pe_callB (c_len (K := K)) rfl T.z_len (by decide +kernel) (pa_cons (pv 3) pa_nil)) pe_int) pa_nil))) (pa_cons (pe_tup (pa_cons (pv 5) (pa_cons (pe_callD D_law_some_gaps (hr.mono (by first | decide | omega)) rfl (pa_cons (pv 0) (pa_cons (pv 5) pa_nil))) pa_nil))) pa_nil)))))
     pss_nil)))))
    (pss_one (ps_ret (pv 3)))))), ?_⟩
  rw [show L2.start ["_law_feed_here", "_law_letters_here", "_law_first", "_law_told_here", "_law_k", "_law_word_here"] [.ref p, .str (S l)] = [some (.ref p), some (.str (S l)), none, none, none, none] from rfl]
  walk_at "go"
  refine ⟨p, n, l, 20, rfl, hf, by omega, hl, hl1, hl2, by decide, by decide, fun w1 H1 hw0 hw1 hw2 hf1 k1 => ?_⟩
  walk_at "go"
  refine ⟨p, n + 30, w1, rfl, hf1, by omega, hw1, hw2, fun t g H2 ht hR hf2 k2 htp => ?_⟩
  have k02 := k1.trans k2
  walk_at "go"
  intro y hy0
  have py : p ≠ y := by obtain ⟨o, e⟩ := hf2.some; exact ne_of_none e hy0
  have sy := same_new hy0 (.tup [.str (S w1), .ref t])
  have k03 := k02.new hy0 (.tup [.str (S w1), .ref t])
  have hf3 : FeedAt (upd H2 y (.tup [.str (S w1), .ref t])) p (n + 70) := hf2.new hy0
  have ey := upd_same (H := H2) (a := y) (o := .tup [.str (S w1), .ref t])
  have et := sy _ _ ht
  generalize upd H2 y (.tup [.str (S w1), .ref t]) = H3 at sy k03 hf3 ey et ⊢
  walk_at "go"
  intro r hr0
  have pr : p ≠ r := by obtain ⟨o, e⟩ := hf3.some; exact ne_of_none e hr0
  have hrH : H r = none := by
    cases e : H r with
    | none => rfl
    | some o => exact absurd (k03 r o pr.symm e) (by rw [hr0]; exact fun z => nomatch z)
  have sr := same_new hr0 (.lst [.ref y])
  have k04 := k03.new hr0 (.lst [.ref y])
  have hf4 : FeedAt (upd H3 r (.lst [.ref y])) p (n + 70) := hf3.new hr0
  have tl4 : Tld (upd H3 r (.lst [.ref y])) r [.ref y] [(w1, g.map fun k : Nat => (k : Int))] := by
    refine ⟨upd_same, ?_⟩
    simp only [List.map_cons, List.map_nil, L2.IsL]
    refine ⟨isPat_mk (x := (w1, g.map fun k : Nat => (k : Int))) (sr _ _ ey) ?_, trivial⟩
    rw [List.map_map]
    exact sr _ _ et
  generalize upd H3 r (.lst [.ref y]) = H4 at k04 hf4 tl4 ⊢
  walk_at "go"
  refine ⟨p, 5, n + 70, rfl, hf4, by omega, by decide, by decide, fun d H5 hd0 hd1 hf5 o5 => ?_⟩
  have tl5 := tl4.kept o5.kept hf4 pr.symm
  have k05 := k04.trans o5.kept
  walk_at "go"
  refine for_range (fun i σ H' => ∃ (v4 v5 : Option V) (ys : List V) (told : List Pat), σ = [some (.ref p), some (.str (S l)), some (.str (S w1)), some (.ref r), v4, v5] ∧ Tld H' r ys told ∧ 1 ≤ told.length ∧ told.length ≤ 1 + i ∧ (told.map (·.1)).Nodup ∧ (∀ x ∈ told, OkT x) ∧ FeedAt H' p (n + 100 + 150 * i) ∧ Kept p H H')
    ⟨none, none, _, _, rfl, tl5, Nat.le_refl _, Nat.le_refl _, by simp, fun x hx => ?_, hf5.mono (by omega), k05⟩ ?_ ?_
  · have : x = (w1, g.map fun k : Nat => (k : Int)) := by simpa using hx
    rw [this]
    exact ⟨⟨hw0, hw1, hw2⟩, g, rfl, hR⟩
  · rintro i σ H6 hi ⟨v4, v5, ys, told, rfl, tl6, ht1, ht2, hnd, hok, hf6, k6⟩
    have hi5 : i < 5 := by omega
    walk_at "go"
    intro d1 hd1
    have pd1 : p ≠ d1 := by obtain ⟨o, e⟩ := hf6.some; exact ne_of_none e hd1
    have sd := same_new hd1 (.lst [.int 3, .int 20])
    have kd := k6.new hd1 (.lst [.int 3, .int 20])
    walk_at "go"
    refine ⟨p, 2, n + 100 + 150 * i, rfl, hf6.new hd1, by omega, by decide, by decide, fun c1 Hb hb0 hb1 hfb ob => ?_⟩
    obtain ⟨m1, hm2, hm3⟩ := pick2 (a := 3) (b := 20) hb0 hb1
    refine i_ixR (seqR_lst ((ob d1 pd1.symm).trans upd_same)) hm2 ?_
    have tlb := (tl6.same sd).kept ob.kept (hf6.new hd1) pr.symm
    have kb := kd.trans ob.kept
    walk_at "go"
    refine ⟨p, n + 100 + 150 * i + 1, l, m1, rfl, hfb, by omega, hl, hl1, hl2, by omega, by omega, fun wd Hc hwd0 hwd1 hwd2 hfc kc => ?_⟩
    have tlc := tlb.kept kc hfb pr.symm
    have kc0 := kb.trans kc
    walk_at "go"
    refine ⟨p, 3, n + 100 + 150 * i + 1 + 30, rfl, hfc, by omega, by decide, by decide, fun c2 Hd he0 he1 hfd od => ?_⟩
    have tld := tlc.kept od.kept hfc pr.symm
    have kd0 := kc0.trans od.kept
    walk_at "go"
    refine iteD (fun cc => ?_) (fun cc => ?_)
    · walk_at "go"
      refine ⟨p, _, n + 100 + 150 * i + 1 + 30 + 1, rfl, hfd, by omega, by omega, by omega, fun c3 H7 hh0 hh1 hf7 o7 => ?_⟩
      have tl7 := tld.kept o7.kept hfd pr.symm
      have k7 := kd0.trans o7.kept
      walk_at "go"
      have hg : GW (cutA w1 none (some (1 + c3))) := by
        have hc := cut_length w1 none (some (1 + c3))
        have e1 : sx w1.length 0 none = 0 := rfl
        have e2 : sx w1.length w1.length (some (1 + c3)) = min (1 + c3).toNat w1.length := by simp only [sx]; rw [if_neg (by omega)]
        rw [e1, e2] at hc
        exact ⟨Low_cut hw0 _ _, by omega, by omega⟩
      generalize cutA w1 none (some (1 + c3)) = wd at hg ⊢
      have et7 := tl7.a
      have hyt7 := tl7.b
      have hytl := tl7.len
      walk_at "go"
      intro m hm0
      refine comp_list (K := K) (xs := ys) (fun j acc σ H' => ∃ (v : Option V), σ = [v] ∧ acc = (told.take j).map (fun x => V.str (S x.1)) ∧ H' m = some (.lst acc) ∧ Same H7 H')
        (fun j acc σ H' _ ⟨_, _, _, _, s3⟩ => SqL.of (s3 _ _ et7)) ⟨none, rfl, rfl, upd_same, same_new hm0 _⟩ (fun j acc σ H' ⟨_, _, e, e3, _⟩ => ⟨e3, by rw [e, List.length_map, List.length_take]; omega⟩) (szn (by omega)) ?_ ?_
      · rintro j acc σ H8 hj ⟨v, rfl, rfl, e8, s8⟩
        have hjl : j < told.length := by omega
        obtain ⟨x', d', hx1, hx2, hx3⟩ := IsL.get hyt7 (i := j) (by rw [List.length_map]; exact hjl)
        rw [List.getElem?_map, List.getElem?_eq_getElem hjl] at hx2
        cases hx2
        have hgd : ys.getD j .non = x' := by rw [List.getD_eq_getElem?_getD, hx1]; rfl
        rw [hgd]
        obtain ⟨pa, nt, rfl, hpa, hnt⟩ := isPat hx3
        have hpa8 := s8 _ _ hpa
        walk_at "go"
        refine ⟨e8, _, rfl, ?_, upd_same, fun b' o e => ?_⟩
        · rw [List.take_succ, List.getElem?_eq_getElem hjl, List.map_append]; rfl
        · have hbr : b' ≠ m := fun z => by rw [z, hm0] at e; cases e
          rw [upd_ne hbr]; exact s8 b' o e
      · rintro acc σ H8 ⟨v, rfl, rfl, e8, s8⟩
        rw [hytl, List.take_length] at e8
        have tl8 := tl7.same s8
        have k8 : Kept p H H8 := fun b o hb e => s8 _ _ (k7 b o hb e)
        have hf8 : FeedAt H8 p (n + 100 + 150 * i + 1 + 30 + 1 + 1) := by
          obtain ⟨a1, b1, c1, g1, g2⟩ := hf7
          exact ⟨a1, b1, c1, s8 _ _ g1, g2⟩
        refine i_inR (seqR_lst e8) ⟨rfl, flat_strs _⟩ ?_
        walk_at "go"
        refine iteB (fun c => ?_) (fun c => ?_)
        · have hfr : wd ∉ told.map (·.1) := fun hm => by
            obtain ⟨x, hx, rfl⟩ := List.mem_map.mp hm
            have : inV (.str (S x.1)) (told.map fun x => V.str (S x.1)) = true := by
              unfold inV
              rw [List.any_eq_true]
              exact ⟨V.str (S x.1), List.mem_map.mpr ⟨x, hx, rfl⟩, by simp [eqV]⟩
            rw [this] at c
            simp at c
          have tl8a := tl8.a
          walk_at "go"
          refine ⟨p, _, n + 100 + 150 * i + 1 + 30 + 1 + 1, rfl, hf8, by omega, by omega, by omega, fun at_ H9 ha0 ha1 hf9 o9 => ?_⟩
          have tl9 := tl8.kept o9.kept hf8 pr.symm
          have k9 := k8.trans o9.kept
          walk_at "go"
          refine ⟨p, n + 100 + 150 * i + 1 + 30 + 1 + 1 + 1, wd, rfl, hf9, by omega, hg.2.1, hg.2.2, fun tt g2 H10 htt hR2 hf10 k10 http => ?_⟩
          have tl10 := tl9.kept k10 hf9 pr.symm
          have k10' := k9.trans k10
          walk_at "go"
          intro y2 hy20
          have sy2 := same_new hy20 (.tup [.str (S wd), .ref tt])
          have py2 : p ≠ y2 := by obtain ⟨o, e⟩ := hf10.some; exact ne_of_none e hy20
          have tl11 := tl10.same sy2
          have k11 := k10'.new hy20 (.tup [.str (S wd), .ref tt])
          have hf11 : FeedAt (upd H10 y2 (.tup [.str (S wd), .ref tt])) p (n + 100 + 150 * i + 1 + 30 + 1 + 1 + 1 + 40) := hf10.new hy20
          have ey2 := upd_same (H := H10) (a := y2) (o := .tup [.str (S wd), .ref tt])
          have ett := sy2 _ _ htt
          generalize upd H10 y2 (.tup [.str (S wd), .ref tt]) = H11 at tl11 k11 hf11 ey2 ett ⊢
          walk_at "go"
          refine i_insL tl11.a (by omega) ?_
          walk_at "go"
          refine ⟨_, _, _, putAt told at_.toNat (wd, g2.map fun k : Nat => (k : Int)), rfl, tl11.put (x := (wd, g2.map fun k : Nat => (k : Int))) (i := at_.toNat) ey2 (by rw [List.map_map]; exact ett), by rw [putAt_len]; omega, by rw [putAt_len]; omega, putAt_nodup.mpr ⟨hfr, hnd⟩, fun x hx => ?_, ?_, fun b o hb e => ?_⟩
          · rcases putAt_mem.mp hx with rfl | h
            · exact ⟨hg, g2, rfl, hR2⟩
            · exact hok x h
          · obtain ⟨a1, b1, c1, g1, g3⟩ := hf11
            exact ⟨a1, b1, c1, by rw [upd_ne pr]; exact g1, by omega⟩
          · have hbr : b ≠ r := fun z => by rw [z, hrH] at e; cases e
            rw [upd_ne hbr]; exact k11 b o hb e
        · walk_at "go"
          exact ⟨_, _, ys, told, rfl, tl8, ht1, by omega, hnd, hok, hf8.mono (by omega), k8⟩
    · have hg : GW wd := ⟨hwd0, hwd1, by omega⟩
      have hf7 : FeedAt Hd p (n + 100 + 150 * i + 1 + 30 + 1 + 1) := hfd.mono (by omega)
      have tl7 := tld
      have k7 := kd0
      clear tld kd0
      obtain ⟨H7, hH7⟩ : ∃ H7, H7 = Hd := ⟨_, rfl⟩
      rw [← hH7] at hf7 tl7 k7 ⊢
      walk_at "go"
      have et7 := tl7.a
      have hyt7 := tl7.b
      have hytl := tl7.len
      walk_at "go"
      intro m hm0
      refine comp_list (K := K) (xs := ys) (fun j acc σ H' => ∃ (v : Option V), σ = [v] ∧ acc = (told.take j).map (fun x => V.str (S x.1)) ∧ H' m = some (.lst acc) ∧ Same H7 H')
        (fun j acc σ H' _ ⟨_, _, _, _, s3⟩ => SqL.of (s3 _ _ et7)) ⟨none, rfl, rfl, upd_same, same_new hm0 _⟩ (fun j acc σ H' ⟨_, _, e, e3, _⟩ => ⟨e3, by rw [e, List.length_map, List.length_take]; omega⟩) (szn (by omega)) ?_ ?_
      · rintro j acc σ H8 hj ⟨v, rfl, rfl, e8, s8⟩
        have hjl : j < told.length := by omega
        obtain ⟨x', d', hx1, hx2, hx3⟩ := IsL.get hyt7 (i := j) (by rw [List.length_map]; exact hjl)
        rw [List.getElem?_map, List.getElem?_eq_getElem hjl] at hx2
        cases hx2
        have hgd : ys.getD j .non = x' := by rw [List.getD_eq_getElem?_getD, hx1]; rfl
        rw [hgd]
        obtain ⟨pa, nt, rfl, hpa, hnt⟩ := isPat hx3
        have hpa8 := s8 _ _ hpa
        walk_at "go"
        refine ⟨e8, _, rfl, ?_, upd_same, fun b' o e => ?_⟩
        · rw [List.take_succ, List.getElem?_eq_getElem hjl, List.map_append]; rfl
        · have hbr : b' ≠ m := fun z => by rw [z, hm0] at e; cases e
          rw [upd_ne hbr]; exact s8 b' o e
      · rintro acc σ H8 ⟨v, rfl, rfl, e8, s8⟩
        rw [hytl, List.take_length] at e8
        have tl8 := tl7.same s8
        have k8 : Kept p H H8 := fun b o hb e => s8 _ _ (k7 b o hb e)
        have hf8 : FeedAt H8 p (n + 100 + 150 * i + 1 + 30 + 1 + 1) := by
          obtain ⟨a1, b1, c1, g1, g2⟩ := hf7
          exact ⟨a1, b1, c1, s8 _ _ g1, g2⟩
        refine i_inR (seqR_lst e8) ⟨rfl, flat_strs _⟩ ?_
        walk_at "go"
        refine iteB (fun c => ?_) (fun c => ?_)
        · have hfr : wd ∉ told.map (·.1) := fun hm => by
            obtain ⟨x, hx, rfl⟩ := List.mem_map.mp hm
            have : inV (.str (S x.1)) (told.map fun x => V.str (S x.1)) = true := by
              unfold inV
              rw [List.any_eq_true]
              exact ⟨V.str (S x.1), List.mem_map.mpr ⟨x, hx, rfl⟩, by simp [eqV]⟩
            rw [this] at c
            simp at c
          have tl8a := tl8.a
          walk_at "go"
          refine ⟨p, _, n + 100 + 150 * i + 1 + 30 + 1 + 1, rfl, hf8, by omega, by omega, by omega, fun at_ H9 ha0 ha1 hf9 o9 => ?_⟩
          have tl9 := tl8.kept o9.kept hf8 pr.symm
          have k9 := k8.trans o9.kept
          walk_at "go"
          refine ⟨p, n + 100 + 150 * i + 1 + 30 + 1 + 1 + 1, wd, rfl, hf9, by omega, hg.2.1, hg.2.2, fun tt g2 H10 htt hR2 hf10 k10 http => ?_⟩
          have tl10 := tl9.kept k10 hf9 pr.symm
          have k10' := k9.trans k10
          walk_at "go"
          intro y2 hy20
          have sy2 := same_new hy20 (.tup [.str (S wd), .ref tt])
          have py2 : p ≠ y2 := by obtain ⟨o, e⟩ := hf10.some; exact ne_of_none e hy20
          have tl11 := tl10.same sy2
          have k11 := k10'.new hy20 (.tup [.str (S wd), .ref tt])
          have hf11 : FeedAt (upd H10 y2 (.tup [.str (S wd), .ref tt])) p (n + 100 + 150 * i + 1 + 30 + 1 + 1 + 1 + 40) := hf10.new hy20
          have ey2 := upd_same (H := H10) (a := y2) (o := .tup [.str (S wd), .ref tt])
          have ett := sy2 _ _ htt
          generalize upd H10 y2 (.tup [.str (S wd), .ref tt]) = H11 at tl11 k11 hf11 ey2 ett ⊢
          walk_at "go"
          refine i_insL tl11.a (by omega) ?_
          walk_at "go"
          refine ⟨_, _, _, putAt told at_.toNat (wd, g2.map fun k : Nat => (k : Int)), rfl, tl11.put (x := (wd, g2.map fun k : Nat => (k : Int))) (i := at_.toNat) ey2 (by rw [List.map_map]; exact ett), by rw [putAt_len]; omega, by rw [putAt_len]; omega, putAt_nodup.mpr ⟨hfr, hnd⟩, fun x hx => ?_, ?_, fun b o hb e => ?_⟩
          · rcases putAt_mem.mp hx with rfl | h
            · exact ⟨hg, g2, rfl, hR2⟩
            · exact hok x h
          · obtain ⟨a1, b1, c1, g1, g3⟩ := hf11
            exact ⟨a1, b1, c1, by rw [upd_ne pr]; exact g1, by omega⟩
          · have hbr : b ≠ r := fun z => by rw [z, hrH] at e; cases e
            rw [upd_ne hbr]; exact k11 b o hb e
        · walk_at "go"
          exact ⟨_, _, ys, told, rfl, tl8, ht1, by omega, hnd, hok, hf8.mono (by omega), k8⟩
  · rintro σ H6 ⟨v4, v5, ys, told, rfl, tl6, ht1, ht2, hnd, hok, hf6, k6⟩
    walk_at "go"
    exact q r ys told H6 pr.symm hrH tl6 ht1 (by omega) hnd hok (hf6.mono (by omega)) k6
end
abbrev s_law_refused : Stmt := top 26
theorem sc_law_refused : FnScope ["_law_told_here", "_law_handed", "_law_word_here", "e", "_law_others"] ["_law_told_here"] (defScope s_law_refused) := ⟨rfl, rfl, rfl, by decide +kernel, rfl, by decide +kernel, by decide +kernel⟩
abbrev s_law : Stmt := top 27
theorem sc_law : FnScope ["_law_script", "_law_cell", "_law_feed_here", "_law_letters_here", "_law_told_here", "_law_k", "_law_word_here", "_law_gaps", "_law_names", "_law_due"] ["_law_script"] (defScope s_law) := ⟨rfl, rfl, rfl, by decide +kernel, rfl, by decide +kernel, by decide +kernel⟩
/-- what a breaker of these tells -/
def spRefused : Sp := fun vs H Q _ => ∃ (r : Addr) (ys : List V) (told : List Pat), vs = [.ref r] ∧ Tld H r ys told ∧ told.length ≤ 100 ∧ (∀ x ∈ told, OkT x) ∧
  ((told.map (·.1)).Nodup → ∀ H', Same H H' → Q (.str (S [])) H') ∧
  ∀ (i : Nat) (x : Pat), told[i]? = some x → ((told.take i).map (·.1)).Nodup → x.1 ∈ (told.take i).map (·.1) → ∀ H', Same H H' → Q (.str (S x.1)) H'
theorem Low_lt {l : List Nat} (h : Low l) : ∀ c ∈ l, c < 128 := fun c hc => by
  have := h c hc
  unfold isLow at this
  have := of_decide_eq_true this
  omega
section
variable {P : Program} {w : World} {K : PySem.W.Frag} {mg : Str → Option Value} {base : Heap} {f : Addr} {fd : FuncData} {tk : Nat → Tok} {cO : Addr} {ad : Nat → Addr}
theorem Cs.ne (Z : Cs K mg ad) (i j : Nat) (hi : i < 8) (hj : j < 8) (h : i ≠ j) : ad i ≠ ad j := fun e => by
  have nd := Z.nd
  have h1 : ∀ k, k < 8 → ([ad 0, ad 1, ad 2, ad 3, ad 4, ad 5, ad 6, ad 7] : List Addr)[k]? = some (ad k) := fun k hk => by
    match k, hk with
    | 0, _ => rfl
    | 1, _ => rfl
    | 2, _ => rfl
    | 3, _ => rfl
    | 4, _ => rfl
    | 5, _ => rfl
    | 6, _ => rfl
    | 7, _ => rfl
  exact h ((List.getElem?_inj (by show i < 8; exact hi) nd).mp (by rw [h1 i hi, h1 j hj, e]))
theorem ok_law_refused (T : Txt mg tk) (Z : Cs K mg ad) (O : Ow K mg cO) (F : Fun K "_law_refused" "_law_refused" s_law_refused f fd) (D_Breaker_init : DkX P w K mg base cO 4 ["self", "patterns", "told", "head", "tail"] (spBrkIX cO (ad 5))) : FnOk P w K mg base CX0 6 f fd ["_law_told_here"] spRefused := by
  refine F.ok sc_law_refused (fun vs H Q E h => ?_) (fun cdv A outer s H vs Q E hr h => ?_)
  · obtain ⟨r, ys, told, rfl, _⟩ := h
    rfl
  obtain ⟨r, ys, told, rfl, tl, htl, hok, q, qe⟩ := h
  have nd := sc_law_refused.nd
  have hyl := tl.len
  obtain ⟨EXC, hX⟩ : ∃ EXC : St → XK, EXC = fun σ v od H' => ∃ (e d hd : Addr) (i : Nat) (x : Pat), v = .ref e ∧ od = some d ∧ σ[1]? = some (some (.ref hd)) ∧ H' hd = some (.lst ys) ∧ told[i]? = some x ∧ ((told.take i).map (·.1)).Nodup ∧ x.1 ∈ (told.take i).map (·.1) ∧ H' e = some (XO e (ad 5) (some d) false) ∧ H' d = some (.xd [("word", .str (S x.1))]) ∧ Same H H' := ⟨_, rfl⟩
  have hEXC : ∀ σ x od H', EXC σ (.ref x) od H' → ∃ C, H' x = some (XO x C od false) ∧ Exc K (ad 0) C := fun σ x od H' h => by
    rw [hX] at h
    obtain ⟨e, d, hd, i, x0, e1, rfl, _, _, _, _, _, h1, _, _⟩ := h
    cases e1
    exact ⟨ad 5, h1, Z.x_Twice⟩
  refine ⟨_, (pss_cons (ps_set (i := 1) nd rfl (Or.inl rfl) (pe_callTy c_list rfl T.z_list (by decide +kernel) (pa_cons (pv 0) pa_nil)))
    (pss_cons (ps_set (i := 2) nd rfl (Or.inl rfl) pe_non)
    (pss_cons (ps_tryK (i := 3) (EX := EXC) rfl rfl nd rfl rfl rfl Z.m_WordError Z.w_WordError hEXC (fun pn xe σs hxe => (psat_expr (pa_makeDX D_Breaker_init (hr.mono (by first | decide | omega)) rfl O.m_Breaker hxe (pa_cons (pe_lst pa_nil) (pa_cons (pv 1) (pa_cons pe_int (pa_cons pe_int pa_nil)))))))
     (fun pn xe => (pss_one (ps_set (i := 2) nd rfl (Or.inl rfl) pe_str)))
     (fun xx => (pss_cons (ps_set (i := 4) nd rfl (Or.inl rfl) (pe_callB (c_isiXT (K := K)) rfl T.z_isinstance (by decide +kernel) (pa_cons (pv 3) (pa_cons (pe_tup (pa_cons (pe_glob (v := .ref _) rfl Z.m_NoPattern rfl) (pa_cons (pe_glob (v := .ref _) rfl Z.m_NoRow rfl) (pa_cons (pe_glob (v := .ref _) rfl Z.m_NoThing rfl) (pa_cons (pe_glob (v := .ref _) rfl Z.m_NoTongue rfl) (pa_cons (pe_glob (v := .ref _) rfl Z.m_NoWord rfl) (pa_cons (pe_glob (v := .ref _) rfl Z.m_TooNarrow rfl) pa_nil))))))) pa_nil))))
    (pss_one (ps_if (PW.pt (pw_and (pt_tru (pe_callB (c_isiX (K := K)) rfl T.z_isinstance (by decide +kernel) (pa_cons (pv 3) (pa_cons (pe_glob (v := .ref _) rfl Z.m_Twice rfl) pa_nil))) (fun _ => rfl)) (pw_and (pt_not (pt_tru (pv 4) (fun _ => rfl))) (pw_and1 (pt_tru (pe_callB (c_isiX (K := K)) rfl T.z_isinstance (by decide +kernel) (pa_cons (pv 3) (pa_cons (pe_bltn (v := .ty "ValueError") rfl T.z_ValueError (by decide +kernel) rfl) pa_nil))) (fun _ => rfl))))))
     (pss_one (ps_set (i := 2) nd rfl (Or.inl rfl) (pe_fldX (K := K) (pv 3) rfl)))
     pss_nil)))))
    (pss_one (ps_ret (pe_ifExp (pt_cmpR (o_eq hr.units) (pv 1) (pv 0) (nomark _)) (pv 2) pe_non)))))), ?_⟩
  rw [show L2.start ["_law_told_here", "_law_handed", "_law_word_here", "e", "_law_others"] [.ref r] = [some (.ref r), none, none, none, none] from rfl]
  rw [t_empty]
  walk_at "go"
  refine i_listR (seqR_lst tl.a) fun hd hhd => ?_
  have s1 := same_new hhd (.lst ys)
  have ehd := upd_same (H := H) (a := hd) (o := .lst ys)
  generalize upd H hd (.lst ys) = H1 at s1 ehd ⊢
  have okl : okD (patsD told) := (Lay.pats fun x hx => Low_lt (hok x hx).1.1).ok (by decide)
  walk_at "go"
  refine i_tryK ?_ ?_
  · walk_at "go"
    refine i_make ?_
    walk_at "go"
    intro l0 hl0
    have s2 := same_new hl0 (.lst [])
    have el0 := upd_same (H := H1) (a := l0) (o := .lst [])
    have ehd2 := s2 _ _ ehd
    have s02 := s1.trans s2
    generalize upd H1 l0 (.lst []) = H2 at s2 el0 ehd2 s02 ⊢
    walk_at "go"
    intro x dx hx hdx hne
    have s4 : Same H2 (upd (upd H2 dx (.own x)) x (.ins cO dx [])) := fun b o e => by
      rw [upd_ne (ne_of_none e hx), upd_ne (ne_of_none e hdx)]; exact e
    have e4 := upd_same (H := upd H2 dx (.own x)) (a := x) (o := .ins cO dx [])
    generalize upd (upd H2 dx (.own x)) x (.ins cO dx []) = H4 at s4 e4 ⊢
    have s04 := s02.trans s4
    refine ⟨x, l0, hd, dx, [], ys, told, 1, 1, rfl, e4, s4 _ _ el0, s4 _ _ ehd2, by decide, IsL.same s04 tl.b, by omega, fun x hx => by have := (hok x hx).1.2.2; omega, fun hnd H5 off => ⟨rfl, ?_⟩, fun i x0 hi hnd hmem e d H5 h1 h2 s5 => ?_⟩
    · have hk5 : ∀ b o, H2 b = some o → H5 b = some o := fun b o e => off b o (ne_of_none e hx) (s4 b o e)
      have s05 : Same H H5 := fun b o e => hk5 _ _ (s02 b o e)
      have tl5 := tl.same s05
      have ehd5 := hk5 _ _ ehd2
      walk_at "go"
      refine i_eqD (d := patsD told) (e := patsD told) ?_ ?_ okl okl ?_
      · simp only [Is, patsD]; exact ⟨hd, ys, rfl, ehd5, tl5.b⟩
      · simp only [Is, patsD]; exact ⟨r, ys, rfl, tl5.a, tl5.b⟩
      rw [eqD_self okl]
      walk_at "go"
      exact q hnd H5 s05
    · rw [hX]
      exact ⟨e, d, hd, i, x0, rfl, rfl, rfl, s5 _ _ (s4 _ _ ehd2), hi, hnd, hmem, h1, h2, s04.trans s5⟩
  · intro e od H' hE
    rw [hX] at hE
    obtain ⟨e', d, hd', i, x0, e1, rfl, e2, ehd', hi, hnd, hmem, h1, h2, s'⟩ := hE
    cases e1
    cases (show some (some (V.ref hd)) = some (some (V.ref hd')) from e2)
    have hne := Z.ne
    walk_at "go"
    intro t ht
    have st := same_new ht (.tup [.ref (ad 2), .ref (ad 7), .ref (ad 3), .ref (ad 6), .ref (ad 1), .ref (ad 4)])
    have ett := upd_same (H := H') (a := t) (o := .tup [.ref (ad 2), .ref (ad 7), .ref (ad 3), .ref (ad 6), .ref (ad 1), .ref (ad 4)])
    have h1' := st _ _ h1
    have h2' := st _ _ h2
    have ehd2 := st _ _ ehd'
    have s2 := s'.trans st
    generalize upd H' t (.tup [.ref (ad 2), .ref (ad 7), .ref (ad 3), .ref (ad 6), .ref (ad 1), .ref (ad 4)]) = H2 at ett h1' h2' ehd2 s2 ⊢
    have hD : ∀ d', some d = some d' → ∃ fs, H2 d' = some (.xd fs) := fun d' e => by cases e; exact ⟨_, h2'⟩
    walk_at "go"
    refine i_isiXT (cs := [ad 2, ad 7, ad 3, ad 6, ad 1, ad 4]) ett h1' hD Z.x_Twice ?_ ?_
    · intro c hc
      simp only [List.mem_cons, List.not_mem_nil, or_false] at hc
      rcases hc with rfl | rfl | rfl | rfl | rfl | rfl
      · exact kit_other Z.x_Twice Z.x_NoPattern (hne 5 2 (by decide) (by decide) (by decide)) (hne 2 0 (by decide) (by decide) (by decide))
      · exact kit_other Z.x_Twice Z.x_NoRow (hne 5 7 (by decide) (by decide) (by decide)) (hne 7 0 (by decide) (by decide) (by decide))
      · exact kit_other Z.x_Twice Z.x_NoThing (hne 5 3 (by decide) (by decide) (by decide)) (hne 3 0 (by decide) (by decide) (by decide))
      · exact kit_other Z.x_Twice Z.x_NoTongue (hne 5 6 (by decide) (by decide) (by decide)) (hne 6 0 (by decide) (by decide) (by decide))
      · exact kit_other Z.x_Twice Z.x_NoWord (hne 5 1 (by decide) (by decide) (by decide)) (hne 1 0 (by decide) (by decide) (by decide))
      · exact kit_other Z.x_Twice Z.x_TooNarrow (hne 5 4 (by decide) (by decide) (by decide)) (hne 4 0 (by decide) (by decide) (by decide))
    walk_at "go"
    refine i_isiX h1' hD Z.x_Twice (fun u h => h) (kit_self Z.x_Twice) ?_
    walk_at "go"
    refine i_isiX h1' hD Z.x_Twice (fun u h => h) (kit_ve Z.x_Twice) ?_
    walk_at "go"
    refine i_fldX ?_
    walk_at "go"
    refine ⟨e, ad 5, ad 0, d, false, _, .str (S x0.1), rfl, h1', h2', Z.x_Twice, Z.n_Twice, rfl, ?_⟩
    have tl2 := tl.same s2
    walk_at "go"
    refine i_eqD (d := patsD told) (e := patsD told) ?_ ?_ okl okl ?_
    · simp only [Is, patsD]; exact ⟨hd, ys, rfl, ehd2, tl2.b⟩
    · simp only [Is, patsD]; exact ⟨r, ys, rfl, tl2.a, tl2.b⟩
    rw [eqD_self okl]
    walk_at "go"
    exact qe i x0 hi hnd hmem H2 s2
end
def spLaw (K : PySem.W.Frag) : Sp := fun vs H Q _ => ∃ (a : Addr) (ns : List Int), vs = [.ref a] ∧ SqL K H a (ns.map V.int) ∧ ns.length ≤ 63 ∧ ∀ H', Q (.bl true) H'
theorem cut_to {α : Type} (l : List α) (j : Nat) (h : j ≤ l.length) : cutA l none (some (j : Int)) = l.take j := by
  have := cut_plain l 0 j h (Nat.zero_le _)
  rw [List.drop_zero, Nat.sub_zero] at this
  rw [← this]
  simp [cutA, sx]
theorem nodup_no {told : List Pat} (hnd : (told.map (·.1)).Nodup) {i : Nat} {x : Pat} (hi : told[i]? = some x) (hm : x.1 ∈ (told.take i).map (·.1)) : False := by
  obtain ⟨g, hg, he⟩ := List.mem_map.mp hm
  obtain ⟨j, hj⟩ := List.getElem?_of_mem hg
  rw [List.getElem?_take] at hj
  split at hj
  · rename_i hji
    have hil := (List.getElem?_eq_some_iff.mp hi).1
    have hjl : j < told.length := by omega
    have := List.pairwise_iff_getElem.mp hnd j i (by simpa using hjl) (by simpa using hil) hji
    apply this
    rw [List.getElem_map, List.getElem_map]
    rw [List.getElem?_eq_getElem hjl] at hj
    rw [List.getElem?_eq_getElem hil] at hi
    cases hj; cases hi
    exact he
  · cases hj
theorem nodup_take {told : List Pat} {i : Nat} (h : ((told.take i).map (·.1)).Nodup) {j : Nat} (hj : j < i) : ((told.take j).map (·.1)).Nodup := by
  have e : told.take j = (told.take i).take j := by rw [List.take_take, Nat.min_eq_left (by omega)]
  rw [e, List.map_take]
  exact h.sublist (List.take_sublist _ _)
/-- does it stand ahead already -/
def dupAt (told : List Pat) (k : Nat) : Bool := match told[k]? with
  | some x => decide (x.1 ∈ (told.take k).map (·.1))
  | none => false
def nmAt (told : List Pat) (k : Nat) : V := match told[k]? with
  | some x => .str (S x.1)
  | none => .non
theorem due_head {told : List Pat} {i : Nat} {x : Pat} (hi : told[i]? = some x) (hnd : ((told.take i).map (·.1)).Nodup) (hm : x.1 ∈ (told.take i).map (·.1)) : ∃ rest, ((List.range told.length).filter (dupAt told)).map (nmAt told) = V.str (S x.1) :: rest := by
  have hil := (List.getElem?_eq_some_iff.mp hi).1
  obtain ⟨m, hm2⟩ : ∃ m, told.length = i + (m + 1) := ⟨told.length - i - 1, by omega⟩
  rw [hm2, List.range_add, List.filter_append]
  have h1 : (List.range i).filter (dupAt told) = [] := by
    rw [List.filter_eq_nil_iff]
    intro j hj
    have hj : j < i := List.mem_range.mp hj
    unfold dupAt
    have hjl : j < told.length := by omega
    rw [List.getElem?_eq_getElem hjl]
    simp only [decide_eq_true_eq]
    intro hmem
    have h2 : (told.take i)[j]? = some told[j] := by rw [List.getElem?_take, if_pos hj, List.getElem?_eq_getElem hjl]
    refine nodup_no hnd h2 ?_
    rw [List.take_take, Nat.min_eq_left (by omega)]
    exact hmem
  rw [h1, List.nil_append, List.range_succ_eq_map, List.map_cons, List.filter_cons]
  have h3 : dupAt told (i + 0) = true := by
    unfold dupAt
    rw [Nat.add_zero, hi]
    exact decide_eq_true hm
  rw [if_pos h3, List.map_cons]
  refine ⟨_, congrArg (· :: _) ?_⟩
  unfold nmAt
  rw [Nat.add_zero, hi]
theorem in_strs (z : List Nat) : ∀ l : List Pat, inV (.str (S z)) (l.map fun x => V.str (S x.1)) = decide (z ∈ l.map (·.1))
  | [] => rfl
  | x :: l => by
    have ih := in_strs z l
    unfold inV at ih ⊢
    rw [List.map_cons, List.any_cons, ih, List.map_cons]
    by_cases e : z = x.1
    · subst e
      simp [eqV]
    · have h2 : (S x.1 == S z) = false := by rw [beq_eq_false_iff_ne]; exact fun q => e (S_inj q).symm
      have h3 : (z == x.1) = false := by rw [beq_eq_false_iff_ne]; exact e
      simp [eqV, h2, h3]
section
variable {P : Program} {w : World} {K : PySem.W.Frag} {mg : Str → Option Value} {base : Heap} {f : Addr} {fd : FuncData} {tk : Nat → Tok} {cO : Addr} {ad : Nat → Addr}
theorem ok_law (T : Txt mg tk) (F : Fun K "law" "law" s_law f fd) (D_law_feed : Dn P w K mg base "_law_feed" 1 ["_law_script", "_law_k"] (spFeed K)) (D_law_next : Dn P w K mg base "_law_next" 1 ["_law_feed_here", "_law_many"] spNext) (D_law_alike : Dn P w K mg base "_law_alike" 6 ["_law_found", "_law_due"] (spAlike 6)) (D_law_letters : Dn P w K mg base "_law_letters" 2 ["_law_feed_here"] spLetters) (D_law_some_gaps : Dn P w K mg base "_law_some_gaps" 2 ["_law_feed_here", "_law_word_here"] spSG) (D_law_told : Dn P w K mg base "_law_told" 3 ["_law_feed_here", "_law_letters_here"] spTold) (D_law_refused : Dn P w K mg base "_law_refused" 6 ["_law_told_here"] spRefused) : FnOk P w K mg base CX0 8 f fd ["_law_script"] (spLaw K) := by
  refine F.ok sc_law (fun vs H Q E h => ?_) (fun cdv A outer s H vs Q E hr h => ?_)
  · obtain ⟨a, ns, rfl, _⟩ := h
    rfl
  obtain ⟨a, ns, rfl, hS, hlen, q⟩ := h
  have nd := sc_law.nd
  refine ⟨_, (pss_cons (ps_for PassesOwn.never rfl (pi_any (K := K) (pe_op o_add (pe_lst (pa_cons pe_int pa_nil)) (pe_slice (sl_any (K := K)) (pv 0) po_none (po_some pe_int)))) (pg_name (i := 1) nd rfl (Or.inl rfl))
     (pss_cons (ps_set (i := 2) nd rfl (Or.inl rfl) (pe_callD D_law_feed (hr.mono (by first | decide | omega)) rfl (pa_cons (pe_lst (pa_cons (pv 1) pa_nil)) (pa_cons pe_int pa_nil))))
    (pss_cons (ps_set (i := 3) nd rfl (Or.inl rfl) (pe_callD D_law_letters (hr.mono (by first | decide | omega)) rfl (pa_cons (pv 2) pa_nil)))
    (pss_cons (ps_set (i := 4) nd rfl (Or.inl rfl) (pe_callD D_law_told (hr.mono (by first | decide | omega)) rfl (pa_cons (pv 2) (pa_cons (pv 3) pa_nil))))
    (pss_cons (ps_if (pt_cmpR (o_ne hr.units) (pe_callD D_law_refused (hr.mono (by first | decide | omega)) rfl (pa_cons (pv 4) pa_nil)) pe_str (nomark _))
     (pss_one (ps_ret pe_bl))
     pss_nil)
    (pss_cons (ps_for PassesOwn.never rfl (pi_range1 rfl T.z_range (pa_cons (pe_op o_add pe_int (pe_callD D_law_next (hr.mono (by first | decide | omega)) rfl (pa_cons (pv 2) (pa_cons pe_int pa_nil)))) pa_nil)) (pg_name (i := 5) nd rfl (Or.inl rfl))
     (pss_cons (ps_asg (pe_ix (ix_any (K := K)) (pv 4) (pe_callD D_law_next (hr.mono (by first | decide | omega)) rfl (pa_cons (pv 2) (pa_cons (pe_callB (c_len (K := K)) rfl T.z_len (by decide +kernel) (pa_cons (pv 4) pa_nil)) pa_nil))) (fun _ _ => rfl)) (pg_tup rfl (pgs_cons (pg_name (i := 6) nd rfl (Or.inl rfl)) (pgs_cons (pg_name (i := 7) nd rfl (Or.inl rfl)) pgs_nil))))
    (pss_cons (ps_if (pt_cmpR (o_eq hr.units) (pe_callD D_law_next (hr.mono (by first | decide | omega)) rfl (pa_cons (pv 2) (pa_cons pe_int pa_nil))) pe_int (nomark _))
     (pss_one (ps_set (i := 7) nd rfl (Or.inl rfl) (pe_callD D_law_some_gaps (hr.mono (by first | decide | omega)) rfl (pa_cons (pv 2) (pa_cons (pv 6) pa_nil)))))
     pss_nil)
    (pss_one (ps_expr (pe_bmK (K := K) PySem.F.plainAttrs_list PySem.F.slot_list_insert PySem.F.type_list_insert m_insert2 (pv 4) (pa_cons (pe_callD D_law_next (hr.mono (by first | decide | omega)) rfl (pa_cons (pv 2) (pa_cons (pe_op o_add (pe_callB (c_len (K := K)) rfl T.z_len (by decide +kernel) (pa_cons (pv 4) pa_nil)) pe_int) pa_nil))) (pa_cons (pe_tup (pa_cons (pv 6) (pa_cons (pv 7) pa_nil))) pa_nil))))))))
    (pss_cons (ps_set (i := 8) nd rfl (Or.inr rfl) (pe_comp ["_law_one"] [none] rfl (by kernel_rfl) rfl (pi_any (K := K) (pv 4)) (fun _ _ _ _ => (pg_name (i := 0) (show (["_law_one"] : List Str).Nodup by decide +kernel) rfl (Or.inl rfl) (Or.inr rfl))) (fun _ _ _ _ => pts_nil) (fun _ _ _ _ => (pe_ix (ix_any (K := K)) (pv 0) pe_int (fun _ _ => rfl)))))
    (pss_cons (ps_setC (i := 9) ["_law_names", "_law_k"] [some 8, none] rfl (by kernel_rfl) rfl nd rfl rfl (pi_range1 rfl T.z_range (pa_cons (pe_callB (c_len (K := K)) rfl T.z_len (by decide +kernel) (pa_cons (pv 8) pa_nil)) pa_nil)) (fun _ _ _ _ => (pg_name (i := 1) (show (["_law_names", "_law_k"] : List Str).Nodup by decide +kernel) rfl (Or.inl rfl) (Or.inr rfl))) (fun _ _ _ _ => (pts_one (pt_cmpR o_in (pe_ix (ix_any (K := K)) (pv 0) (pv 1) (fun _ _ => rfl)) (pe_slice (sl_any (K := K)) (pv 0) po_none (po_some (pv 1))) (by with_unfolding_all rfl)))) (fun _ _ _ _ => (pe_ix (ix_any (K := K)) (pv 0) (pv 1) (fun _ _ => rfl))))
    (pss_one (ps_if (pt_not (pt_tru (pe_callD D_law_alike (hr.mono (by first | decide | omega)) rfl (pa_cons (pe_callD D_law_refused (hr.mono (by first | decide | omega)) rfl (pa_cons (pv 4) pa_nil)) (pa_cons (pe_ix (ix_any (K := K)) (pv 9) pe_int (fun _ _ => rfl)) pa_nil))) (fun _ => rfl)))
     (pss_one (ps_ret pe_bl))
     pss_nil))))))))))
    (pss_one (ps_ret pe_bl))), ?_⟩
  rw [show L2.start ["_law_script", "_law_cell", "_law_feed_here", "_law_letters_here", "_law_told_here", "_law_k", "_law_word_here", "_law_gaps", "_law_names", "_law_due"] [.ref a] = [some (.ref a), none, none, none, none, none, none, none, none, none] from rfl]
  rw [t_empty]
  walk_at "go"
  intro l0 hl0
  have s1 := same_new hl0 (.lst [.int 0])
  have el0 := upd_same (H := H) (a := l0) (o := .lst [.int 0])
  have hS1 := s1.seq hS
  generalize upd H l0 (.lst [.int 0]) = H1 at s1 el0 hS1 ⊢
  walk_at "go"
  refine i_slL hS1 fun l1 hl1 => ?_
  have s2 := same_new hl1 (.lst (cutV (ns.map V.int) none (some 20)))
  have el1 := upd_same (H := H1) (a := l1) (o := .lst (cutV (ns.map V.int) none (some 20)))
  have el02 := s2 _ _ el0
  generalize upd H1 l1 (.lst (cutV (ns.map V.int) none (some 20))) = H2 at s2 el1 el02 ⊢
  obtain ⟨cs, hcs⟩ : ∃ cs : List Int, cutV (ns.map V.int) none (some 20) = cs.map V.int := ⟨cutA ns none (some 20), by rw [cutV_eq, cutA_map]⟩
  have hcl : cs.length ≤ 63 := by
    have := congrArg List.length hcs
    rw [List.length_map, cutV_eq, cut_length, List.length_map] at this
    have h2 := sx_le ns.length ns.length (Nat.le_refl _) (some 20)
    omega
  rw [hcs] at el1
  refine i_addL el02 el1 (szn (by rw [List.length_map]; simp; omega)) fun l2 hl2 => ?_
  have el2 := upd_same (H := H2) (a := l2) (o := .lst ([V.int 0] ++ cs.map V.int))
  generalize upd H2 l2 (.lst ([V.int 0] ++ cs.map V.int)) = H3 at el2 ⊢
  have hint : ∀ i x, ([V.int 0] ++ cs.map V.int)[i]? = some x → ∃ c : Int, x = V.int c := fun i x hx => by
    have hm := List.mem_of_getElem? hx
    rcases List.mem_append.mp hm with h | h
    · exact ⟨0, by simpa using h⟩
    · obtain ⟨c, _, rfl⟩ := List.mem_map.mp h
      exact ⟨c, rfl⟩
  walk_at "go"
  refine for_list (K := K) (xs := [V.int 0] ++ cs.map V.int) (fun i σ H' => ∃ (v1 v2 v3 v4 v5 v6 v7 v8 v9 : Option V), σ = [some (.ref a), v1, v2, v3, v4, v5, v6, v7, v8, v9] ∧ Same H3 H')
    ⟨none, none, none, none, none, none, none, none, none, rfl, Same.refl _⟩ (fun i σ H' _ ⟨_, _, _, _, _, _, _, _, _, _, s⟩ => SqL.of (s _ _ el2)) ?_ ?_
  · rintro i x σ Ha hx ⟨v1, v2, v3, v4, v5, v6, v7, v8, v9, rfl, sa⟩
    obtain ⟨c, rfl⟩ := hint i x hx
    walk_at "go"
    intro lc hlc
    have sb := same_new hlc (.lst [.int c])
    have elc := upd_same (H := Ha) (a := lc) (o := .lst [.int c])
    generalize upd Ha lc (.lst [.int c]) = Hb at sb elc ⊢
    walk_at "go"
    refine ⟨lc, [c], 0, rfl, SqL.of elc, by decide, by decide, fun p Hc hp0 hfc oc => ?_⟩
    have hpa : Ha p = none := sb.free hp0
    have sH : ∀ H', Kept p Hc H' → Same Ha H' := fun H' k b o e => by
      have hb : b ≠ p := ne_of_none (sb _ _ e) hp0
      exact k b o hb ((oc b hb).trans (sb _ _ e))
    walk_at "go"
    refine ⟨p, 0, rfl, hfc, by decide, fun l Hd hl hl1' hl2' hfd od => ?_⟩
    walk_at "go"
    refine ⟨p, 0 + 3, l, rfl, hfd, by decide, hl, by omega, hl2', fun r ys told He hrp hrd tle ht1 ht2 hnd hok hfe ke => ?_⟩
    have sae : Same Ha He := sH _ (od.kept.trans ke)
    have hra : Ha r = none := by
      cases e : Ha r with
      | none => rfl
      | some o => exact absurd (sH _ od.kept r o e) (by rw [hrd]; exact fun z => nomatch z)
    walk_at "go"
    refine ⟨r, ys, told, rfl, tle, by omega, hok, fun _ Hf sf => ?_, fun i x hi _ hm => (nodup_no hnd hi hm).elim⟩
    have tlf := tle.same sf
    have saf := sae.trans sf
    have hff : FeedAt Hf p (0 + 3 + 2000) := FeedAt.same hfe sf
    walk_at "go"
    refine ⟨p, 2, 0 + 3 + 2000, rfl, hff, by decide, by decide, by decide, fun d Hg hd0 hd1 hfg og => ?_⟩
    have tlg := tlf.kept og.kept hff hrp
    have sag : Same Ha Hg := fun b o e => (og b (ne_of_none e hpa)).trans (saf _ _ e)
    walk_at "go"
    refine for_range (fun j σ H' => ∃ (v5 v6 v7 : Option V) (ys : List V) (told : List Pat), σ = [some (.ref a), some (.int c), some (.ref p), some (.str (S l)), some (.ref r), v5, v6, v7, v8, v9] ∧ Tld H' r ys told ∧ 1 ≤ told.length ∧ told.length ≤ 10 + j ∧ (∀ x ∈ told, OkT x) ∧ (1 ≤ j → ¬ (told.map (·.1)).Nodup) ∧ FeedAt H' p (2100 + 100 * j) ∧ Same Ha H')
      ⟨_, _, _, ys, told, rfl, tlg, ht1, ht2, hok, by omega, hfg.mono (by omega), sag⟩ ?_ ?_
    · clear tlg hok hnd ht1 ht2 tlf tle
      rintro j σ Hh hj ⟨v5, v6, v7, ys, told, rfl, tlh, ht1, ht2, hok, _, hfh, sah⟩
      have hj2 : j < 2 := by omega
      have hyl := tlh.len
      have tlha := tlh.a
      walk_at "go"
      refine ⟨p, _, 2100 + 100 * j, rfl, hfh, by show _ < 1000000; omega, by omega, by omega, fun at_ Hi ha0 ha1 hfi oi => ?_⟩
      have tli := tlh.kept oi.kept hfh hrp
      have sai : Same Ha Hi := fun b o e => (oi b (ne_of_none e hpa)).trans (sah _ _ e)
      have hal : at_.toNat < told.length := by omega
      obtain ⟨y, d', hy1, hy2, hy3⟩ := IsL.get tli.b (i := at_.toNat) (by rw [List.length_map]; exact hal)
      rw [List.getElem?_map, List.getElem?_eq_getElem hal] at hy2
      cases hy2
      refine i_ixR (v := y) (seqR_lst tli.a) (atI_of ha0 hy1) ?_
      obtain ⟨a2, t2, rfl, ea2, et2⟩ := isPat hy3
      have hokx := hok _ (List.getElem_mem hal)
      have hmem : told[at_.toNat].1 ∈ told.map (·.1) := List.mem_map.mpr ⟨_, List.getElem_mem hal, rfl⟩
      generalize told[at_.toNat] = xx at ea2 et2 hokx hmem
      obtain ⟨wd, gs⟩ := xx
      simp only at ea2 et2 hmem
      refine i_gtup ea2 rfl (i_gcons (i_name (i_gcons (i_name (i_gnil ?_)))))
      walk_at "go"
      refine ⟨p, 2, 2100 + 100 * j + 1, rfl, hfi, by show _ < 1000000; omega, by decide, by decide, fun c2 Hk hc0 hc1 hfk ok2 => ?_⟩
      have tlk := tli.kept ok2.kept hfi hrp
      have sak : Same Ha Hk := fun b o e => (ok2 b (ne_of_none e hpa)).trans (sai _ _ e)
      have et2k : Hk t2 = some (.tup (gs.map V.int)) := by
        obtain ⟨z1, z2, z3, ez⟩ := FeedAt.ex hfi
        exact (ok2 t2 (fun z => by rw [z, ez] at et2; cases et2)).trans et2
      walk_at "go"
      refine iteD (fun cc => ?_) (fun cc => ?_)
      · walk_at "go"
        refine ⟨p, 2100 + 100 * j + 1 + 1, wd, rfl, hfk, by show _ < 1000000; omega, hokx.1.2.1, hokx.1.2.2, fun tt g2 Hm htt hR2 hfm km http => ?_⟩
        have tlm := tlk.kept km hfk hrp
        have sam : Same Ha Hm := fun b o e => km b o (ne_of_none e hpa) (sak _ _ e)
        have okx2 : OkT (wd, g2.map fun k : Nat => (k : Int)) := ⟨hokx.1, g2, rfl, hR2⟩
        have htt2 : Hm tt = some (.tup ((g2.map fun k : Nat => (k : Int)).map V.int)) := by rw [List.map_map]; exact htt
        have hfm2 : FeedAt Hm p (2100 + 100 * j + 50) := hfm.mono (by omega)
        generalize (g2.map fun k : Nat => (k : Int)) = gs2 at okx2 htt2
        obtain ⟨tq, htq⟩ : ∃ tq, tq = tt := ⟨_, rfl⟩
        rw [← htq] at htt2 ⊢
        walk_at "go"
        have hyl2 := tlm.len
        have tlma := tlm.a
        walk_at "go"
        refine ⟨p, _, 2100 + 100 * j + 50, rfl, hfm2, by show _ < 1000000; omega, by omega, by omega, fun at2 Hn hb0 hb1 hfn on => ?_⟩
        have tln := tlm.kept on.kept hfm2 hrp
        have san : Same Ha Hn := fun b o e => (on b (ne_of_none e hpa)).trans (sam _ _ e)
        obtain ⟨z1, z2, z3, ez⟩ := FeedAt.ex hfm2
        have httn := (on _ (fun z => by rw [z, ez] at htt2; cases htt2)).trans htt2
        walk_at "go"
        intro y2 hy20
        have sy2 := same_new hy20 (.tup [.str (S wd), .ref tq])
        have py2 : p ≠ y2 := by obtain ⟨o, e⟩ := hfn.some; exact ne_of_none e hy20
        have tlo := tln.same sy2
        have sao := san.trans sy2
        have hfo := hfn.new hy20 (o := .tup [.str (S wd), .ref tq])
        have ey2 := upd_same (H := Hn) (a := y2) (o := .tup [.str (S wd), .ref tq])
        have etto := sy2 _ _ httn
        walk_at "go"
        refine i_insL tlo.a (by omega) ?_
        walk_at "go"
        refine ⟨_, _, _, _, putAt told at2.toNat (wd, _), rfl, tlo.put (i := at2.toNat) ey2 etto, by rw [putAt_len]; omega, by rw [putAt_len]; omega, fun x hx => ?_, fun _ hz => (putAt_nodup.mp hz).1 hmem, ?_, fun b o e => ?_⟩
        · rcases putAt_mem.mp hx with rfl | h
          · exact okx2
          · exact hok x h
        · obtain ⟨a1, b1, c1, g1, g3⟩ := hfo
          exact ⟨a1, b1, c1, by rw [upd_ne (Ne.symm hrp)]; exact g1, by omega⟩
        · have hbr : b ≠ r := ne_of_none e hra
          rw [upd_ne hbr]; exact sao b o e
      · obtain ⟨Hm, hHm⟩ : ∃ Hm, Hm = Hk := ⟨_, rfl⟩
        have tlm := tlk
        have sam := sak
        have okx2 := hokx
        have htt2 := et2k
        have hfm2 : FeedAt Hk p (2100 + 100 * j + 50) := hfk.mono (by omega)
        rw [← hHm] at tlm sam htt2 hfm2 ⊢
        obtain ⟨tq, htq⟩ : ∃ tq, tq = t2 := ⟨_, rfl⟩
        rw [← htq] at htt2 ⊢
        walk_at "go"
        have hyl2 := tlm.len
        have tlma := tlm.a
        walk_at "go"
        refine ⟨p, _, 2100 + 100 * j + 50, rfl, hfm2, by show _ < 1000000; omega, by omega, by omega, fun at2 Hn hb0 hb1 hfn on => ?_⟩
        have tln := tlm.kept on.kept hfm2 hrp
        have san : Same Ha Hn := fun b o e => (on b (ne_of_none e hpa)).trans (sam _ _ e)
        obtain ⟨z1, z2, z3, ez⟩ := FeedAt.ex hfm2
        have httn := (on _ (fun z => by rw [z, ez] at htt2; cases htt2)).trans htt2
        walk_at "go"
        intro y2 hy20
        have sy2 := same_new hy20 (.tup [.str (S wd), .ref tq])
        have py2 : p ≠ y2 := by obtain ⟨o, e⟩ := hfn.some; exact ne_of_none e hy20
        have tlo := tln.same sy2
        have sao := san.trans sy2
        have hfo := hfn.new hy20 (o := .tup [.str (S wd), .ref tq])
        have ey2 := upd_same (H := Hn) (a := y2) (o := .tup [.str (S wd), .ref tq])
        have etto := sy2 _ _ httn
        walk_at "go"
        refine i_insL tlo.a (by omega) ?_
        walk_at "go"
        refine ⟨_, _, _, _, putAt told at2.toNat (wd, _), rfl, tlo.put (i := at2.toNat) ey2 etto, by rw [putAt_len]; omega, by rw [putAt_len]; omega, fun x hx => ?_, fun _ hz => (putAt_nodup.mp hz).1 hmem, ?_, fun b o e => ?_⟩
        · rcases putAt_mem.mp hx with rfl | h
          · exact okx2
          · exact hok x h
        · obtain ⟨a1, b1, c1, g1, g3⟩ := hfo
          exact ⟨a1, b1, c1, by rw [upd_ne (Ne.symm hrp)]; exact g1, by omega⟩
        · have hbr : b ≠ r := ne_of_none e hra
          rw [upd_ne hbr]; exact sao b o e
    · clear tlg hok hnd ht1 ht2 tlf tle
      rintro σ Hh ⟨v5, v6, v7, ys, told, rfl, tlh, ht1, ht2, hok, hnn, hfh, sah⟩
      have hnn := hnn (by omega)
      have ht20 : told.length ≤ 20 := by omega
      clear ht2
      have hyl := tlh.len
      have tlha := tlh.a
      have tlhb := tlh.b
      walk_at "go"
      intro m hm0
      refine comp_list (K := K) (xs := ys) (fun j acc σ H' => ∃ (v : Option V), σ = [v] ∧ acc = (told.take j).map (fun x => V.str (S x.1)) ∧ H' m = some (.lst acc) ∧ Same Hh H')
        (fun j acc σ H' _ ⟨_, _, _, _, s3⟩ => SqL.of (s3 _ _ tlha)) ⟨none, rfl, rfl, upd_same, same_new hm0 _⟩ (fun j acc σ H' ⟨_, _, e, e3, _⟩ => ⟨e3, by rw [e, List.length_map, List.length_take]; omega⟩) (szn (by omega)) ?_ ?_
      · rintro j acc σ H8 hj ⟨v, rfl, rfl, e8, s8⟩
        have hjl : j < told.length := by omega
        obtain ⟨x', d', hx1, hx2, hx3⟩ := IsL.get tlhb (i := j) (by rw [List.length_map]; exact hjl)
        rw [List.getElem?_map, List.getElem?_eq_getElem hjl] at hx2
        cases hx2
        have hgd : ys.getD j .non = x' := by rw [List.getD_eq_getElem?_getD, hx1]; rfl
        rw [hgd]
        obtain ⟨pa, nt, rfl, hpa2, hnt⟩ := isPat hx3
        have hpa8 := s8 _ _ hpa2
        walk_at "go"
        refine ⟨e8, _, rfl, ?_, upd_same, fun b' o e => ?_⟩
        · rw [List.take_succ, List.getElem?_eq_getElem hjl, List.map_append]; rfl
        · have hbr : b' ≠ m := fun z => by rw [z, hm0] at e; cases e
          rw [upd_ne hbr]; exact s8 b' o e
      rintro acc σ H8 ⟨v, rfl, rfl, e8, s8⟩
      rw [hyl, List.take_length] at e8
      walk_at "go"
      rw [List.length_map]
      walk_at "go"
      intro m2 hm20
      have mm2 : m ≠ m2 := ne_of_none e8 hm20
      refine comp_range (fun j acc σ H' => ∃ (v : Option V), σ = [some (.ref m), v] ∧ acc = ((List.range j).filter (dupAt told)).map (nmAt told) ∧ Same H8 H' ∧ H' m2 = some (.lst acc))
        ⟨none, rfl, rfl, same_new hm20 _, upd_same⟩ (fun j acc σ H' ⟨_, _, e, _, e2⟩ => ⟨e2, by rw [e, List.length_map]; exact Nat.le_trans (List.length_filter_le _ _) (by simp)⟩) (szn (by omega)) ?_ ?_
      · rintro j acc σ H9 hj ⟨v, rfl, rfl, s9, e9⟩
        have hjl : j < told.length := by omega
        have em := s9 _ _ e8
        have hii : (0 + (j : Int)) = (j : Int) := by omega
        have hat : atI (told.map fun x => V.str (S x.1)) (0 + (j : Int)) = some (.str (S told[j].1)) := atI_of (by omega) (by rw [show (0 + (j : Int)).toNat = j by omega, List.getElem?_map, List.getElem?_eq_getElem hjl]; rfl)
        have hnm : nmAt told j = .str (S told[j].1) := by unfold nmAt; rw [List.getElem?_eq_getElem hjl]
        have hdp : dupAt told j = decide (told[j].1 ∈ (told.take j).map (·.1)) := by unfold dupAt; rw [List.getElem?_eq_getElem hjl]
        walk_at "go"
        refine i_slL (SqL.of em) fun sl hsl => ?_
        have hcv : cutV (told.map fun x => V.str (S x.1)) none (some (0 + (j : Int))) = (told.take j).map fun x => V.str (S x.1) := by
          rw [cutV_eq, cutA_map, hii, cut_to told j (by omega)]
        rw [hcv]
        have s10 := same_new hsl (.lst ((told.take j).map fun x => V.str (S x.1)))
        have esl := upd_same (H := H9) (a := sl) (o := .lst ((told.take j).map fun x => V.str (S x.1)))
        generalize upd H9 sl (.lst ((told.take j).map fun x => V.str (S x.1))) = H10 at s10 esl ⊢
        walk_at "go"
        refine i_inR (seqR_lst esl) ⟨rfl, flat_strs _⟩ ?_
        rw [in_strs, ← hdp]
        have em10 := s10 _ _ em
        have e910 := s10 _ _ e9
        walk_at "go"
        refine iteB (fun cd => ?_) (fun cd => ?_)
        · have cd : dupAt told j = true := by simpa using cd
          walk_at "go"
          try refine i_ixR (seqR_lst em10) hat ?_
          refine ⟨e910, _, rfl, ?_, fun b o e => ?_, upd_same⟩
          · rw [List.range_succ, List.filter_append, List.map_append, List.filter_cons, cd, if_pos rfl, ← hnm]; rfl
          · have hbr : b ≠ m2 := fun z => by rw [z, hm20] at e; cases e
            rw [upd_ne hbr]; exact s10 _ _ (s9 b o e)
        · have cd : dupAt told j = false := by simpa using cd
          refine ⟨_, rfl, ?_, s9.trans s10, e910⟩
          rw [List.range_succ, List.filter_append, List.map_append, List.filter_cons, cd, if_neg Bool.false_ne_true]; simp
      · rintro acc σ H9 ⟨v, rfl, rfl, s9, e9⟩
        have hrl : ((told.length : Int) - 0).toNat = told.length := by omega
        have tl9 := (tlh.same s8).same s9
        have sa9 := (sah.trans s8).trans s9
        walk_at "go"
        refine ⟨r, ys, told, rfl, tl9, by omega, hok, fun z => absurd z hnn, fun i0 x0 hi0 hnd0 hm0' H10 s10 => ?_⟩
        obtain ⟨rest, hrest⟩ := due_head hi0 hnd0 hm0'
        have e10 := s10 _ _ e9
        have e10 : H10 m2 = some (.lst (V.str (S x0.1) :: rest)) := by
          rw [← hrest]
          first | exact e10 | (rw [hrl] at e10; exact e10)
        walk_at "go"
        refine ⟨_, _, .str (S x0.1), rfl, by simp only [Is], by simp only [Is], by show 0 < 6; decide, by show 0 ≤ 100000; decide, fun H11 s11 => ?_⟩
        walk_at "go"
        exact ⟨_, _, _, _, _, _, _, _, _, rfl, ((sa.trans sa9).trans s10).trans s11⟩
  · rintro σ Ha ⟨v1, v2, v3, v4, v5, v6, v7, v8, v9, rfl, sa⟩
    walk_at "go"
    exact q Ha
end
theorem all_mk {l : PySem.W.OpenLaw} {w : World} {K : PySem.W.Frag} {h : Heap} {mg : Str → Option Value} {fa f1 f2 f3 f4 f5 f6 f7 f8 f9 f10 f11 : Addr} (X : K.In h) (G : h.Ns mainGlobals mg) (hfa : mg "law" = some (.ref fa))
    {c0 : Addr} {nm0 q0 : Str} {N0 : Addr} {bs0 sub0 : List Value} {hd0 ab0 : Bool} {sn0 : List Str} {col0 : Option Bool} {dd0 : Option Addr} {u0a u0b u0c u0d u0e : Option Value} {nw0 : String}
    (aC0 : PySem.W.nsIn K mainGlobals "WordError" = some (some (.ref c0))) (oC0 : K.lookup c0 = some (excClassObj nm0 q0 c0 N0 bs0 vBM hd0 sn0 sub0 ab0 col0 dd0 u0a u0b u0c u0d u0e nw0)) (rC0 : PySem.W.readsIn K c0 (.type "type") = true) (gC0 : PySem.W.specialIn K (.ref c0) "__getattribute__" = some (some (.builtin "type.__getattribute__"))) (iC0 : PySem.W.findCls K (.ref c0) (.type "type") "__init__" = some (.val (.builtin xIni)))
    {c1 : Addr} {nm1 q1 : Str} {N1 : Addr} {bs1 sub1 : List Value} {ab1 : Bool} {sn1 : List Str} {col1 : Option Bool} {dd1 : Option Addr} {u1a u1b u1c u1d u1e : Option Value}
    (aC1 : PySem.W.nsIn K mainGlobals "NoWord" = some (some (.ref c1))) (oC1 : K.lookup c1 = some (excClassObj nm1 q1 c1 N1 bs1 (.ref c0 :: vBM) true sn1 sub1 ab1 col1 dd1 u1a u1b u1c u1d u1e xNew)) (pC1 : PySem.W.findIn K (.ref c1) "__getattribute__" = some (some (.builtin xGa))) (rC1 : PySem.W.findIn K (.ref c1) "__getattr__" = some none) (sC1 : PySem.W.findIn K (.ref c1) "__setattr__" = some (some (.builtin "object.__setattr__"))) (kC1 : PySem.W.keepIn K (.ref c1) = true) (lC1 : PySem.W.findIn K (.ref c1) "__class__" = some (some (.builtin "object.__class__")))
    {g1 : Addr} (iC1 : PySem.W.findIn K (.ref c1) "__init__" = some (some (.ref g1))) (fC1 : PySem.W.isFn K (.ref g1) = true) (nC1 : PySem.W.findIn K (.ref c1) "place" = some none)
    {c2 : Addr} {nm2 q2 : Str} {N2 : Addr} {bs2 sub2 : List Value} {ab2 : Bool} {sn2 : List Str} {col2 : Option Bool} {dd2 : Option Addr} {u2a u2b u2c u2d u2e : Option Value}
    (aC2 : PySem.W.nsIn K mainGlobals "NoPattern" = some (some (.ref c2))) (oC2 : K.lookup c2 = some (excClassObj nm2 q2 c2 N2 bs2 (.ref c0 :: vBM) true sn2 sub2 ab2 col2 dd2 u2a u2b u2c u2d u2e xNew)) (pC2 : PySem.W.findIn K (.ref c2) "__getattribute__" = some (some (.builtin xGa))) (rC2 : PySem.W.findIn K (.ref c2) "__getattr__" = some none) (sC2 : PySem.W.findIn K (.ref c2) "__setattr__" = some (some (.builtin "object.__setattr__"))) (kC2 : PySem.W.keepIn K (.ref c2) = true) (lC2 : PySem.W.findIn K (.ref c2) "__class__" = some (some (.builtin "object.__class__")))
    {g2 : Addr} (iC2 : PySem.W.findIn K (.ref c2) "__init__" = some (some (.ref g2))) (fC2 : PySem.W.isFn K (.ref g2) = true) (nC2 : PySem.W.findIn K (.ref c2) "place" = some none)
    {c3 : Addr} {nm3 q3 : Str} {N3 : Addr} {bs3 sub3 : List Value} {ab3 : Bool} {sn3 : List Str} {col3 : Option Bool} {dd3 : Option Addr} {u3a u3b u3c u3d u3e : Option Value}
    (aC3 : PySem.W.nsIn K mainGlobals "NoThing" = some (some (.ref c3))) (oC3 : K.lookup c3 = some (excClassObj nm3 q3 c3 N3 bs3 (.ref c0 :: vBM) true sn3 sub3 ab3 col3 dd3 u3a u3b u3c u3d u3e xNew)) (pC3 : PySem.W.findIn K (.ref c3) "__getattribute__" = some (some (.builtin xGa))) (rC3 : PySem.W.findIn K (.ref c3) "__getattr__" = some none) (sC3 : PySem.W.findIn K (.ref c3) "__setattr__" = some (some (.builtin "object.__setattr__"))) (kC3 : PySem.W.keepIn K (.ref c3) = true) (lC3 : PySem.W.findIn K (.ref c3) "__class__" = some (some (.builtin "object.__class__")))
    {g3 : Addr} (iC3 : PySem.W.findIn K (.ref c3) "__init__" = some (some (.ref g3))) (fC3 : PySem.W.isFn K (.ref g3) = true) (nC3 : PySem.W.findIn K (.ref c3) "place" = some none)
    {c4 : Addr} {nm4 q4 : Str} {N4 : Addr} {bs4 sub4 : List Value} {ab4 : Bool} {sn4 : List Str} {col4 : Option Bool} {dd4 : Option Addr} {u4a u4b u4c u4d u4e : Option Value}
    (aC4 : PySem.W.nsIn K mainGlobals "TooNarrow" = some (some (.ref c4))) (oC4 : K.lookup c4 = some (excClassObj nm4 q4 c4 N4 bs4 (.ref c0 :: vBM) true sn4 sub4 ab4 col4 dd4 u4a u4b u4c u4d u4e xNew)) (pC4 : PySem.W.findIn K (.ref c4) "__getattribute__" = some (some (.builtin xGa))) (rC4 : PySem.W.findIn K (.ref c4) "__getattr__" = some none) (sC4 : PySem.W.findIn K (.ref c4) "__setattr__" = some (some (.builtin "object.__setattr__"))) (kC4 : PySem.W.keepIn K (.ref c4) = true) (lC4 : PySem.W.findIn K (.ref c4) "__class__" = some (some (.builtin "object.__class__")))
    {g4 : Addr} (iC4 : PySem.W.findIn K (.ref c4) "__init__" = some (some (.ref g4))) (fC4 : PySem.W.isFn K (.ref g4) = true) (nC4 : PySem.W.findIn K (.ref c4) "place" = some none)
    {c5 : Addr} {nm5 q5 : Str} {N5 : Addr} {bs5 sub5 : List Value} {ab5 : Bool} {sn5 : List Str} {col5 : Option Bool} {dd5 : Option Addr} {u5a u5b u5c u5d u5e : Option Value}
    (aC5 : PySem.W.nsIn K mainGlobals "Twice" = some (some (.ref c5))) (oC5 : K.lookup c5 = some (excClassObj nm5 q5 c5 N5 bs5 (.ref c0 :: vBM) true sn5 sub5 ab5 col5 dd5 u5a u5b u5c u5d u5e xNew)) (pC5 : PySem.W.findIn K (.ref c5) "__getattribute__" = some (some (.builtin xGa))) (rC5 : PySem.W.findIn K (.ref c5) "__getattr__" = some none) (sC5 : PySem.W.findIn K (.ref c5) "__setattr__" = some (some (.builtin "object.__setattr__"))) (kC5 : PySem.W.keepIn K (.ref c5) = true) (lC5 : PySem.W.findIn K (.ref c5) "__class__" = some (some (.builtin "object.__class__")))
    {g5 : Addr} (iC5 : PySem.W.findIn K (.ref c5) "__init__" = some (some (.ref g5))) (fC5 : PySem.W.isFn K (.ref g5) = true) (nC5 : PySem.W.findIn K (.ref c5) "word" = some none)
    {c6 : Addr} {nm6 q6 : Str} {N6 : Addr} {bs6 sub6 : List Value} {ab6 : Bool} {sn6 : List Str} {col6 : Option Bool} {dd6 : Option Addr} {u6a u6b u6c u6d u6e : Option Value}
    (aC6 : PySem.W.nsIn K mainGlobals "NoTongue" = some (some (.ref c6))) (oC6 : K.lookup c6 = some (excClassObj nm6 q6 c6 N6 bs6 (.ref c0 :: vBM) true sn6 sub6 ab6 col6 dd6 u6a u6b u6c u6d u6e xNew)) (pC6 : PySem.W.findIn K (.ref c6) "__getattribute__" = some (some (.builtin xGa))) (rC6 : PySem.W.findIn K (.ref c6) "__getattr__" = some none) (sC6 : PySem.W.findIn K (.ref c6) "__setattr__" = some (some (.builtin "object.__setattr__"))) (kC6 : PySem.W.keepIn K (.ref c6) = true) (lC6 : PySem.W.findIn K (.ref c6) "__class__" = some (some (.builtin "object.__class__")))
    {g6 : Addr} (iC6 : PySem.W.findIn K (.ref c6) "__init__" = some (some (.ref g6))) (fC6 : PySem.W.isFn K (.ref g6) = true) (nC6 : PySem.W.findIn K (.ref c6) "name" = some none)
    {c7 : Addr} {nm7 q7 : Str} {N7 : Addr} {bs7 sub7 : List Value} {ab7 : Bool} {sn7 : List Str} {col7 : Option Bool} {dd7 : Option Addr} {u7a u7b u7c u7d u7e : Option Value}
    (aC7 : PySem.W.nsIn K mainGlobals "NoRow" = some (some (.ref c7))) (oC7 : K.lookup c7 = some (excClassObj nm7 q7 c7 N7 bs7 (.ref c0 :: vBM) true sn7 sub7 ab7 col7 dd7 u7a u7b u7c u7d u7e xNew)) (pC7 : PySem.W.findIn K (.ref c7) "__getattribute__" = some (some (.builtin xGa))) (rC7 : PySem.W.findIn K (.ref c7) "__getattr__" = some none) (sC7 : PySem.W.findIn K (.ref c7) "__setattr__" = some (some (.builtin "object.__setattr__"))) (kC7 : PySem.W.keepIn K (.ref c7) = true) (lC7 : PySem.W.findIn K (.ref c7) "__class__" = some (some (.builtin "object.__class__")))
    (iC7 : PySem.W.findIn K (.ref c7) "__init__" = some (some (.builtin xIni)))
    (ndC : ([c0, c1, c2, c3, c4, c5, c6, c7] : List Addr).Nodup)
    {cO : Addr} (aO : PySem.W.nsIn K mainGlobals "Breaker" = some (some (.ref cO))) (pO : PySem.W.plainGet K cO Str.empty = true) (dO : PySem.W.hasDictIn K cO = true) (vO : PySem.W.plainOver K cO = true) (sO : PySem.W.findIn K (.ref cO) "__setattr__" = some (some (.builtin "object.__setattr__"))) (mO : PySem.W.makesIn K cO = true) (kO : PySem.W.keepIn K (.ref cO) = true)
    (n_told_gaps : PySem.W.findIn K (.ref cO) "told_gaps" = some none)
    (n_patterns : PySem.W.findIn K (.ref cO) "patterns" = some none)
    (n_head : PySem.W.findIn K (.ref cO) "head" = some none)
    (n_tail : PySem.W.findIn K (.ref cO) "tail" = some none)
    {od0 an0 : Option Addr} {sl0 : Array (Option Value)} {oc0 kV0 dc0 pm0 cd0 ct0 : Value}
    (l0 : K.lookup g5 = some ⟨oc0, od0, .func (PySem.W.fnOf "__init__" "Twice.__init__" (defArgs s_Twice_init) (defBody s_Twice_init) (defScope s_Twice_init) .none kV0 dc0 pm0 an0 cd0 ct0), sl0⟩) (c_0 : PySem.W.codeIn K cd0 "Twice.__init__" = true) (k0 : PySem.W.keepIn K (.ref g5) = true)
    {od1 an1 : Option Addr} {sl1 : Array (Option Value)} {oc1 kV1 dc1 pm1 cd1 ct1 : Value}
    (a1 : PySem.W.nsIn K mainGlobals "gaps_by_word" = some (some (.ref f1))) (l1 : K.lookup f1 = some ⟨oc1, od1, .func (PySem.W.fnOf "gaps_by_word" "gaps_by_word" (defArgs s_gaps_by_word) (defBody s_gaps_by_word) (defScope s_gaps_by_word) .none kV1 dc1 pm1 an1 cd1 ct1), sl1⟩) (c_1 : PySem.W.codeIn K cd1 "gaps_by_word" = true) (k1 : PySem.W.keepIn K (.ref f1) = true)
    {od2 an2 : Option Addr} {sl2 : Array (Option Value)} {oc2 kV2 dc2 pm2 cd2 ct2 : Value}
    (iOX2 : PySem.W.findIn K (.ref cO) "__init__" = some (some (.ref f2))) (fOX2 : PySem.W.isFn K (.ref f2) = true) (l2 : K.lookup f2 = some ⟨oc2, od2, .func (PySem.W.fnOf "__init__" "Breaker.__init__" (defArgs s_Breaker_init) (defBody s_Breaker_init) (defScope s_Breaker_init) .none kV2 dc2 pm2 an2 cd2 ct2), sl2⟩) (c_2 : PySem.W.codeIn K cd2 "Breaker.__init__" = true) (k2 : PySem.W.keepIn K (.ref f2) = true)
    {od3 an3 : Option Addr} {sl3 : Array (Option Value)} {oc3 kV3 dc3 pm3 cd3 ct3 : Value}
    (a3 : PySem.W.nsIn K mainGlobals "_law_feed" = some (some (.ref f3))) (l3 : K.lookup f3 = some ⟨oc3, od3, .func (PySem.W.fnOf "_law_feed" "_law_feed" (defArgs s_law_feed) (defBody s_law_feed) (defScope s_law_feed) .none kV3 dc3 pm3 an3 cd3 ct3), sl3⟩) (c_3 : PySem.W.codeIn K cd3 "_law_feed" = true) (k3 : PySem.W.keepIn K (.ref f3) = true)
    {od4 an4 : Option Addr} {sl4 : Array (Option Value)} {oc4 kV4 dc4 pm4 cd4 ct4 : Value}
    (a4 : PySem.W.nsIn K mainGlobals "_law_next" = some (some (.ref f4))) (l4 : K.lookup f4 = some ⟨oc4, od4, .func (PySem.W.fnOf "_law_next" "_law_next" (defArgs s_law_next) (defBody s_law_next) (defScope s_law_next) .none kV4 dc4 pm4 an4 cd4 ct4), sl4⟩) (c_4 : PySem.W.codeIn K cd4 "_law_next" = true) (k4 : PySem.W.keepIn K (.ref f4) = true)
    {od5 an5 : Option Addr} {sl5 : Array (Option Value)} {oc5 kV5 dc5 pm5 cd5 ct5 : Value}
    (a5 : PySem.W.nsIn K mainGlobals "_law_alike" = some (some (.ref f5))) (l5 : K.lookup f5 = some ⟨oc5, od5, .func (PySem.W.fnOf "_law_alike" "_law_alike" (defArgs s_law_alike) (defBody s_law_alike) (defScope s_law_alike) .none kV5 dc5 pm5 an5 cd5 ct5), sl5⟩) (c_5 : PySem.W.codeIn K cd5 "_law_alike" = true) (k5 : PySem.W.keepIn K (.ref f5) = true)
    {od6 an6 : Option Addr} {sl6 : Array (Option Value)} {oc6 kV6 dc6 pm6 cd6 ct6 : Value}
    (a6 : PySem.W.nsIn K mainGlobals "_law_letters" = some (some (.ref f6))) (l6 : K.lookup f6 = some ⟨oc6, od6, .func (PySem.W.fnOf "_law_letters" "_law_letters" (defArgs s_law_letters) (defBody s_law_letters) (defScope s_law_letters) .none kV6 dc6 pm6 an6 cd6 ct6), sl6⟩) (c_6 : PySem.W.codeIn K cd6 "_law_letters" = true) (k6 : PySem.W.keepIn K (.ref f6) = true)
    {od7 an7 : Option Addr} {sl7 : Array (Option Value)} {oc7 kV7 dc7 pm7 cd7 ct7 : Value}
    (a7 : PySem.W.nsIn K mainGlobals "_law_word" = some (some (.ref f7))) (l7 : K.lookup f7 = some ⟨oc7, od7, .func (PySem.W.fnOf "_law_word" "_law_word" (defArgs s_law_word) (defBody s_law_word) (defScope s_law_word) .none kV7 dc7 pm7 an7 cd7 ct7), sl7⟩) (c_7 : PySem.W.codeIn K cd7 "_law_word" = true) (k7 : PySem.W.keepIn K (.ref f7) = true)
    {od8 an8 : Option Addr} {sl8 : Array (Option Value)} {oc8 kV8 dc8 pm8 cd8 ct8 : Value}
    (a8 : PySem.W.nsIn K mainGlobals "_law_some_gaps" = some (some (.ref f8))) (l8 : K.lookup f8 = some ⟨oc8, od8, .func (PySem.W.fnOf "_law_some_gaps" "_law_some_gaps" (defArgs s_law_some_gaps) (defBody s_law_some_gaps) (defScope s_law_some_gaps) .none kV8 dc8 pm8 an8 cd8 ct8), sl8⟩) (c_8 : PySem.W.codeIn K cd8 "_law_some_gaps" = true) (k8 : PySem.W.keepIn K (.ref f8) = true)
    {od9 an9 : Option Addr} {sl9 : Array (Option Value)} {oc9 kV9 dc9 pm9 cd9 ct9 : Value}
    (a9 : PySem.W.nsIn K mainGlobals "_law_told" = some (some (.ref f9))) (l9 : K.lookup f9 = some ⟨oc9, od9, .func (PySem.W.fnOf "_law_told" "_law_told" (defArgs s_law_told) (defBody s_law_told) (defScope s_law_told) .none kV9 dc9 pm9 an9 cd9 ct9), sl9⟩) (c_9 : PySem.W.codeIn K cd9 "_law_told" = true) (k9 : PySem.W.keepIn K (.ref f9) = true)
    {od10 an10 : Option Addr} {sl10 : Array (Option Value)} {oc10 kV10 dc10 pm10 cd10 ct10 : Value}
    (a10 : PySem.W.nsIn K mainGlobals "_law_refused" = some (some (.ref f10))) (l10 : K.lookup f10 = some ⟨oc10, od10, .func (PySem.W.fnOf "_law_refused" "_law_refused" (defArgs s_law_refused) (defBody s_law_refused) (defScope s_law_refused) .none kV10 dc10 pm10 an10 cd10 ct10), sl10⟩) (c_10 : PySem.W.codeIn K cd10 "_law_refused" = true) (k10 : PySem.W.keepIn K (.ref f10) = true)
    {od11 an11 : Option Addr} {sl11 : Array (Option Value)} {oc11 kV11 dc11 pm11 cd11 ct11 : Value}
    (a11 : PySem.W.nsIn K mainGlobals "law" = some (some (.ref f11))) (l11 : K.lookup f11 = some ⟨oc11, od11, .func (PySem.W.fnOf "law" "law" (defArgs s_law) (defBody s_law) (defScope s_law) .none kV11 dc11 pm11 an11 cd11 ct11), sl11⟩) (c_11 : PySem.W.codeIn K cd11 "law" = true) (k11 : PySem.W.keepIn K (.ref f11) = true)
    (z_len : PySem.W.nsIn K mainGlobals "len" = some none)
    (z_abs : PySem.W.nsIn K mainGlobals "abs" = some none)
    (z_all : PySem.W.nsIn K mainGlobals "all" = some none)
    (z_range : PySem.W.nsIn K mainGlobals "range" = some none)
    (z_isinstance : PySem.W.nsIn K mainGlobals "isinstance" = some none)
    (z_tuple : PySem.W.nsIn K mainGlobals "tuple" = some none)
    (z_list : PySem.W.nsIn K mainGlobals "list" = some none)
    (z_bool : PySem.W.nsIn K mainGlobals "bool" = some none)
    (z_str : PySem.W.nsIn K mainGlobals "str" = some none)
    (z_int : PySem.W.nsIn K mainGlobals "int" = some none)
    (z_ValueError : PySem.W.nsIn K mainGlobals "ValueError" = some none)
    : ∃ fd : FuncData, (∀ (s : Shared) (v : Value), BindsTo s fd ⟨[v], []⟩ [("_law_script", v)]) ∧ ∀ base : Heap, K.In base → base.Ns mainGlobals mg → FnOk l.prog w K mg base CX0 8 fa fd ["_law_script"] (spLaw K) := by
  have e := hfa.symm.trans (PySem.W.mg_of X G a11)
  cases e
  have T : Txt mg (fun i => ([] : List Tok).getD i 0) := ⟨PySem.W.mg_none_of X G z_len, PySem.W.mg_none_of X G z_abs, PySem.W.mg_none_of X G z_all, PySem.W.mg_none_of X G z_range, PySem.W.mg_none_of X G z_isinstance, PySem.W.mg_none_of X G z_tuple, PySem.W.mg_none_of X G z_list, PySem.W.mg_none_of X G z_bool, PySem.W.mg_none_of X G z_str, PySem.W.mg_none_of X G z_int, PySem.W.mg_none_of X G z_ValueError⟩
  have Z : Cs K mg (fun i => ([c0, c1, c2, c3, c4, c5, c6, c7] : List Addr).getD i 0) := ⟨PySem.W.mg_of X G aC0, ⟨rC0, gC0, iC0⟩, ⟨_, _, _, _, _, _, _, _, _, _, _, _, _, _, _, _, oC0⟩, PySem.W.mg_of X G aC1, ⟨⟨_, _, _, _, _, _, _, _, _, _, _, _, _, _, oC1⟩, pC1, rC1, sC1, kC1, lC1⟩, nC1, PySem.W.mg_of X G aC2, ⟨⟨_, _, _, _, _, _, _, _, _, _, _, _, _, _, oC2⟩, pC2, rC2, sC2, kC2, lC2⟩, nC2, PySem.W.mg_of X G aC3, ⟨⟨_, _, _, _, _, _, _, _, _, _, _, _, _, _, oC3⟩, pC3, rC3, sC3, kC3, lC3⟩, nC3, PySem.W.mg_of X G aC4, ⟨⟨_, _, _, _, _, _, _, _, _, _, _, _, _, _, oC4⟩, pC4, rC4, sC4, kC4, lC4⟩, nC4, PySem.W.mg_of X G aC5, ⟨⟨_, _, _, _, _, _, _, _, _, _, _, _, _, _, oC5⟩, pC5, rC5, sC5, kC5, lC5⟩, nC5, PySem.W.mg_of X G aC6, ⟨⟨_, _, _, _, _, _, _, _, _, _, _, _, _, _, oC6⟩, pC6, rC6, sC6, kC6, lC6⟩, nC6, PySem.W.mg_of X G aC7, ⟨⟨_, _, _, _, _, _, _, _, _, _, _, _, _, _, oC7⟩, pC7, rC7, sC7, kC7, lC7⟩, iC7, ndC⟩
  have O : Ow K mg cO := ⟨PySem.W.mg_of X G aO, ⟨pO, dO, vO, sO⟩, n_told_gaps, n_patterns, n_head, n_tail⟩
  have F_Twice_init := fun_mk (st := s_Twice_init) l0 c_0 k0
  have b_Twice_init := F_Twice_init.binds (ps := ["self", "word"]) fun _ _ _ _ _ _ us hl => match us, hl with | [_, _], _ => rfl
  have F_gaps_by_word := fun_mk (st := s_gaps_by_word) l1 c_1 k1
  have b_gaps_by_word := F_gaps_by_word.binds (ps := ["told"]) fun _ _ _ _ _ _ us hl => match us, hl with | [_], _ => rfl
  have m_gaps_by_word := PySem.W.mg_of X G a1
  have F_Breaker_init := fun_mk (st := s_Breaker_init) l2 c_2 k2
  have b_Breaker_init := F_Breaker_init.binds (ps := ["self", "patterns", "told", "head", "tail"]) fun _ _ _ _ _ _ us hl => match us, hl with | [_, _, _, _, _], _ => rfl
  have F_law_feed := fun_mk (st := s_law_feed) l3 c_3 k3
  have b_law_feed := F_law_feed.binds (ps := ["_law_script", "_law_k"]) fun _ _ _ _ _ _ us hl => match us, hl with | [_, _], _ => rfl
  have m_law_feed := PySem.W.mg_of X G a3
  have F_law_next := fun_mk (st := s_law_next) l4 c_4 k4
  have b_law_next := F_law_next.binds (ps := ["_law_feed_here", "_law_many"]) fun _ _ _ _ _ _ us hl => match us, hl with | [_, _], _ => rfl
  have m_law_next := PySem.W.mg_of X G a4
  have F_law_alike := fun_mk (st := s_law_alike) l5 c_5 k5
  have b_law_alike := F_law_alike.binds (ps := ["_law_found", "_law_due"]) fun _ _ _ _ _ _ us hl => match us, hl with | [_, _], _ => rfl
  have m_law_alike := PySem.W.mg_of X G a5
  have F_law_letters := fun_mk (st := s_law_letters) l6 c_6 k6
  have b_law_letters := F_law_letters.binds (ps := ["_law_feed_here"]) fun _ _ _ _ _ _ us hl => match us, hl with | [_], _ => rfl
  have m_law_letters := PySem.W.mg_of X G a6
  have F_law_word := fun_mk (st := s_law_word) l7 c_7 k7
  have b_law_word := F_law_word.binds (ps := ["_law_feed_here", "_law_letters_here", "_law_most"]) fun _ _ _ _ _ _ us hl => match us, hl with | [_, _, _], _ => rfl
  have m_law_word := PySem.W.mg_of X G a7
  have F_law_some_gaps := fun_mk (st := s_law_some_gaps) l8 c_8 k8
  have b_law_some_gaps := F_law_some_gaps.binds (ps := ["_law_feed_here", "_law_word_here"]) fun _ _ _ _ _ _ us hl => match us, hl with | [_, _], _ => rfl
  have m_law_some_gaps := PySem.W.mg_of X G a8
  have F_law_told := fun_mk (st := s_law_told) l9 c_9 k9
  have b_law_told := F_law_told.binds (ps := ["_law_feed_here", "_law_letters_here"]) fun _ _ _ _ _ _ us hl => match us, hl with | [_, _], _ => rfl
  have m_law_told := PySem.W.mg_of X G a9
  have F_law_refused := fun_mk (st := s_law_refused) l10 c_10 k10
  have b_law_refused := F_law_refused.binds (ps := ["_law_told_here"]) fun _ _ _ _ _ _ us hl => match us, hl with | [_], _ => rfl
  have m_law_refused := PySem.W.mg_of X G a10
  have F_law := fun_mk (st := s_law) l11 c_11 k11
  have b_law := F_law.binds (ps := ["_law_script"]) fun _ _ _ _ _ _ us hl => match us, hl with | [_], _ => rfl
  have m_law := PySem.W.mg_of X G a11
  refine ⟨PySem.W.fnOf "law" "law" (defArgs s_law) (defBody s_law) (defScope s_law) .none kV11 dc11 pm11 an11 cd11 ct11, fun s v => .of_eq rfl, fun base _ _ => ?_⟩
  have D_Twice_init : Ini l.prog w K mg base ((fun i => ([c0, c1, c2, c3, c4, c5, c6, c7] : List Addr).getD i 0) 5) 1 ["self", "word"] (spIni okTx ((fun i => ([c0, c1, c2, c3, c4, c5, c6, c7] : List Addr).getD i 0) 5) "word") := ⟨_, _, iC5, fC5, b_Twice_init, ok_Twice_init Z F_Twice_init⟩
  have D_gaps_by_word : DnX l.prog w K mg base "gaps_by_word" 3 ["told"] (spGbwX c5) := ⟨_, _, m_gaps_by_word, F_gaps_by_word.kp, b_gaps_by_word, ok_gaps_by_word T Z F_gaps_by_word D_Twice_init⟩
  have D_Breaker_init : DkX l.prog w K mg base cO 4 ["self", "patterns", "told", "head", "tail"] (spBrkIX cO c5) := ⟨_, _, ⟨mO, iOX2, fOX2, kO⟩, b_Breaker_init, ok_Breaker_init T O F_Breaker_init D_gaps_by_word⟩
  have D_law_feed : Dn l.prog w K mg base "_law_feed" 1 ["_law_script", "_law_k"] (spFeed K) := ⟨_, _, m_law_feed, F_law_feed.kp, b_law_feed, ok_law_feed T F_law_feed⟩
  have D_law_next : Dn l.prog w K mg base "_law_next" 1 ["_law_feed_here", "_law_many"] spNext := ⟨_, _, m_law_next, F_law_next.kp, b_law_next, ok_law_next F_law_next⟩
  have D_law_alike : Dn l.prog w K mg base "_law_alike" 6 ["_law_found", "_law_due"] (spAlike 6) := ⟨_, _, m_law_alike, F_law_alike.kp, b_law_alike, ok_law_alike T F_law_alike b_law_alike m_law_alike 6⟩
  have D_law_letters : Dn l.prog w K mg base "_law_letters" 2 ["_law_feed_here"] spLetters := ⟨_, _, m_law_letters, F_law_letters.kp, b_law_letters, ok_law_letters T F_law_letters D_law_next⟩
  have D_law_word : Dn l.prog w K mg base "_law_word" 2 ["_law_feed_here", "_law_letters_here", "_law_most"] spWord := ⟨_, _, m_law_word, F_law_word.kp, b_law_word, ok_law_word T F_law_word D_law_next⟩
  have D_law_some_gaps : Dn l.prog w K mg base "_law_some_gaps" 2 ["_law_feed_here", "_law_word_here"] spSG := ⟨_, _, m_law_some_gaps, F_law_some_gaps.kp, b_law_some_gaps, ok_law_some_gaps T F_law_some_gaps D_law_next⟩
  have D_law_told : Dn l.prog w K mg base "_law_told" 3 ["_law_feed_here", "_law_letters_here"] spTold := ⟨_, _, m_law_told, F_law_told.kp, b_law_told, ok_law_told T F_law_told D_law_next D_law_word D_law_some_gaps⟩
  have D_law_refused : Dn l.prog w K mg base "_law_refused" 6 ["_law_told_here"] spRefused := ⟨_, _, m_law_refused, F_law_refused.kp, b_law_refused, ok_law_refused T Z O F_law_refused D_Breaker_init⟩
  exact ok_law T F_law D_law_feed D_law_next D_law_alike D_law_letters D_law_some_gaps D_law_told D_law_refused
theorem walk {l : PySem.W.OpenLaw} {q : Program} {loose : List Str} {XP : (Str → Option Value) → Heap → Prop} {YP : World → Heap → Prop} {d : DefRec} {K : Params → PySem.W.Frag} (hn : l.most = some 63) (hdf : d.params.defaults = [])
    (hY : ∀ (w : World) (h : Heap), YP w h → (K w.params).In h)
    (F : ∀ (w : World) (mg : Str → Option Value) (fa : Addr) (h : Heap), (K w.params).In h → h.Ns mainGlobals mg → mg d.name = some (.ref fa) →
      ∃ fd : FuncData, (∀ (s : Shared) (u : Value), BindsTo s fd ⟨[u], []⟩ [("_law_script", u)]) ∧ ∀ base : Heap, (K w.params).In base → base.Ns mainGlobals mg → FnOk l.prog w (K w.params) mg base CX0 8 fa fd ["_law_script"] (spLaw (K w.params))) :
    PySem.W.WalkO q loose XP YP l.row.toRowW d [] (fun f vs => PySem.call f vs) :=
  L2.walk_of (n := 63) (k := 8) (x := "_law_script") (CX := fun _ => CX0) (sp := fun w => spLaw (K w.params)) hn (by decide) hdf ⟨rfl, by decide, by decide⟩ hY F (fun _ _ a ns hl _ hS => ⟨a, ns, rfl, hS, hl, fun _ => rfl⟩) fun _ _ _ _ _ z => z
end K61
open PySem PySem.W PyProof.Rows
set_option maxRecDepth 100000 in
set_option maxHeartbeats 0 in
theorem PySem.Challenge.cw_breakwords_k61_words_told_twice_holds : PySem.Challenge.rw_breakwords_k61_words_told_twice.Holds := by
  w_on; o_law; k_head; (case hw => w_witness2)
  k_fill
  refine K61.walk (l := PySem.Challenge.rw_breakwords_k61_words_told_twice) rfl rfl (fun w h Y => PySem.W.kIn_of Y) ?F
  case F =>
    intro w mg fa h KX G hmg
    refine' K61.all_mk KX G hmg ?aC0 ?oC0 ?rC0 ?gC0 ?iC0 ?aC1 ?oC1 ?pC1 ?rC1 ?sC1 ?kC1 ?lC1 ?iC1 ?fC1 ?nC1 ?aC2 ?oC2 ?pC2 ?rC2 ?sC2 ?kC2 ?lC2 ?iC2 ?fC2 ?nC2 ?aC3 ?oC3 ?pC3 ?rC3 ?sC3 ?kC3 ?lC3 ?iC3 ?fC3 ?nC3 ?aC4 ?oC4 ?pC4 ?rC4 ?sC4 ?kC4 ?lC4 ?iC4 ?fC4 ?nC4 ?aC5 ?oC5 ?pC5 ?rC5 ?sC5 ?kC5 ?lC5 ?iC5 ?fC5 ?nC5 ?aC6 ?oC6 ?pC6 ?rC6 ?sC6 ?kC6 ?lC6 ?iC6 ?fC6 ?nC6 ?aC7 ?oC7 ?pC7 ?rC7 ?sC7 ?kC7 ?lC7 ?iC7 ?ndC ?aO ?pO ?dO ?vO ?sO ?mO ?kO ?n_told_gaps ?n_patterns ?n_head ?n_tail ?l0 ?c_0 ?k0 ?a1 ?l1 ?c_1 ?k1 ?iOX2 ?fOX2 ?l2 ?c_2 ?k2 ?a3 ?l3 ?c_3 ?k3 ?a4 ?l4 ?c_4 ?k4 ?a5 ?l5 ?c_5 ?k5 ?a6 ?l6 ?c_6 ?k6 ?a7 ?l7 ?c_7 ?k7 ?a8 ?l8 ?c_8 ?k8 ?a9 ?l9 ?c_9 ?k9 ?a10 ?l10 ?c_10 ?k10 ?a11 ?l11 ?c_11 ?k11 ?z_len ?z_abs ?z_all ?z_range ?z_isinstance ?z_tuple ?z_list ?z_bool ?z_str ?z_int ?z_ValueError
    (case aC0 => k_is)
    (case oC0 => k_is)
    (case rC0 => k_is)
    (case gC0 => k_is)
    (case iC0 => k_is)
    (case aC1 => k_is)
    (case oC1 => k_is)
    (case pC1 => k_is)
    (case rC1 => k_is)
    (case sC1 => k_is)
    (case kC1 => k_is)
    (case lC1 => k_is)
    (case iC1 => k_is)
    (case fC1 => k_is)
    (case nC1 => k_is)
    (case aC2 => k_is)
    (case oC2 => k_is)
    (case pC2 => k_is)
    (case rC2 => k_is)
    (case sC2 => k_is)
    (case kC2 => k_is)
    (case lC2 => k_is)
    (case iC2 => k_is)
    (case fC2 => k_is)
    (case nC2 => k_is)
    (case aC3 => k_is)
    (case oC3 => k_is)
    (case pC3 => k_is)
    (case rC3 => k_is)
    (case sC3 => k_is)
    (case kC3 => k_is)
    (case lC3 => k_is)
    (case iC3 => k_is)
    (case fC3 => k_is)
    (case nC3 => k_is)
    (case aC4 => k_is)
    (case oC4 => k_is)
    (case pC4 => k_is)
    (case rC4 => k_is)
    (case sC4 => k_is)
    (case kC4 => k_is)
    (case lC4 => k_is)
    (case iC4 => k_is)
    (case fC4 => k_is)
    (case nC4 => k_is)
    (case aC5 => k_is)
    (case oC5 => k_is)
    (case pC5 => k_is)
    (case rC5 => k_is)
    (case sC5 => k_is)
    (case kC5 => k_is)
    (case lC5 => k_is)
    (case iC5 => k_is)
    (case fC5 => k_is)
    (case nC5 => k_is)
    (case aC6 => k_is)
    (case oC6 => k_is)
    (case pC6 => k_is)
    (case rC6 => k_is)
    (case sC6 => k_is)
    (case kC6 => k_is)
    (case lC6 => k_is)
    (case iC6 => k_is)
    (case fC6 => k_is)
    (case nC6 => k_is)
    (case aC7 => k_is)
    (case oC7 => k_is)
    (case pC7 => k_is)
    (case rC7 => k_is)
    (case sC7 => k_is)
    (case kC7 => k_is)
    (case lC7 => k_is)
    (case iC7 => k_is)
    (case ndC => decide)
    (case aO => k_is)
    (case pO => k_is)
    (case dO => k_is)
    (case vO => k_is)
    (case sO => k_is)
    (case mO => k_is)
    (case kO => k_is)
    (case n_told_gaps => k_is)
    (case n_patterns => k_is)
    (case n_head => k_is)
    (case n_tail => k_is)
    (case l0 => k_is)
    (case c_0 => k_is)
    (case k0 => k_is)
    (case a1 => k_is)
    (case l1 => k_is)
    (case c_1 => k_is)
    (case k1 => k_is)
    (case iOX2 => k_is)
    (case fOX2 => k_is)
    (case l2 => k_is)
    (case c_2 => k_is)
    (case k2 => k_is)
    (case a3 => k_is)
    (case l3 => k_is)
    (case c_3 => k_is)
    (case k3 => k_is)
    (case a4 => k_is)
    (case l4 => k_is)
    (case c_4 => k_is)
    (case k4 => k_is)
    (case a5 => k_is)
    (case l5 => k_is)
    (case c_5 => k_is)
    (case k5 => k_is)
    (case a6 => k_is)
    (case l6 => k_is)
    (case c_6 => k_is)
    (case k6 => k_is)
    (case a7 => k_is)
    (case l7 => k_is)
    (case c_7 => k_is)
    (case k7 => k_is)
    (case a8 => k_is)
    (case l8 => k_is)
    (case c_8 => k_is)
    (case k8 => k_is)
    (case a9 => k_is)
    (case l9 => k_is)
    (case c_9 => k_is)
    (case k9 => k_is)
    (case a10 => k_is)
    (case l10 => k_is)
    (case c_10 => k_is)
    (case k10 => k_is)
    (case a11 => k_is)
    (case l11 => k_is)
    (case c_11 => k_is)
    (case k11 => k_is)
    (case z_len => k_is)
    (case z_abs => k_is)
    (case z_all => k_is)
    (case z_range => k_is)
    (case z_isinstance => k_is)
    (case z_tuple => k_is)
    (case z_list => k_is)
    (case z_bool => k_is)
    (case z_str => k_is)
    (case z_int => k_is)
    (case z_ValueError => k_is)
#print axioms PySem.Challenge.cw_breakwords_k61_words_told_twice_holds
namespace K61
end K61

