import PyProof.Rows.All
import Wide.All
import OpenK.AllK
import Wide.FinOn
import Lean
import PyProof.EqAt
import PyProof.EqKinds
import PyProof.TupleCall
import PyProof.StrLawsIn
import PyProof.CompFree
import PyProof.P3Eq
import PyProof.Draws
import PyProof.EnumMake
import PyProof.WalksMore
import PyProof.ZipIter
import PySem.Challenge.RW_breakwords_k40_what_is_missed_and_wrong
-- CHANGE: your row's module here, as the last of these rows
set_option Elab.async false
set_option linter.all false
set_option maxRecDepth 100000
/-! THE HAND LAYER, for ints, bools, texts, own classes, LISTS and tuples (index, slices, in, append, pop ..), calls, loops. Paste it whole ahead of your own text; what your proof does not reach may be deleted. -/
namespace L2
open PySem PySem.Spec PyProof.Rows

/-- a key: an int or a str -/
abbrev Key := Sum Int Str
def keyIs : Key → Value → Bool
  | .inl k, v => Value.isInt k v
  | .inr x, v => Value.isStrOf x v
def keyH (w : World) : Key → Int
  | .inl k => hashInt k
  | .inr x => hashStr w x
theorem keyIs_shape : ∀ {k : Key} {v : Value}, keyIs k v = true → (∃ i t, k = Sum.inl i ∧ v = Value.int i t) ∨ (∃ x t, k = Sum.inr x ∧ v = Value.str x t)
  | .inl i, v, h => by
    obtain ⟨t, e⟩ := Value.isInt_shape (k := i) (v := v) h
    exact .inl ⟨i, t, rfl, e⟩
  | .inr x, v, h => by
    obtain ⟨t, e⟩ := Value.isStrOf_shape (x := x) (v := v) h
    exact .inr ⟨x, t, rfl, e⟩
theorem keyIs_int (i : Int) (t : Tok) : keyIs (.inl i) (.int i t) = true := by simp [keyIs, Value.isInt]
theorem keyIs_str (x : Str) (t : Tok) : keyIs (.inr x) (.str x t) = true := by simp [keyIs, Value.isStrOf]
theorem key_ll (a b : Int) : decide ((Sum.inl a : Key) = Sum.inl b) = (a == b) := by
  by_cases e : a = b
  · subst e; simp
  · have h : ¬ (Sum.inl a : Key) = Sum.inl b := fun q => e (Sum.inl.inj q)
    rw [decide_eq_false h]
    exact (beq_eq_false_iff_ne.mpr e).symm
theorem key_rr (a b : Str) : decide ((Sum.inr a : Key) = Sum.inr b) = decide (a = b) := by
  by_cases e : a = b
  · subst e; simp
  · have h : ¬ (Sum.inr a : Key) = Sum.inr b := fun q => e (Sum.inr.inj q)
    rw [decide_eq_false h, decide_eq_false e]
theorem key_lr (a : Int) (b : Str) : decide ((Sum.inl a : Key) = Sum.inr b) = false := decide_eq_false (fun q => nomatch q)
theorem key_rl (a : Str) (b : Int) : decide ((Sum.inr a : Key) = Sum.inl b) = false := decide_eq_false (fun q => nomatch q)

def mixKind (prog : Program) (w : World) : PySem.KeyKind prog w Key where
  is := keyIs
  hash := keyH w
  inj := fun v a b ha hb => by
    rcases keyIs_shape ha with ⟨i, t, rfl, rfl⟩ | ⟨x, t, rfl, rfl⟩
    · rcases keyIs_shape hb with ⟨j, u, rfl, e⟩ | ⟨y, u, rfl, e⟩
      · injection e with e1 _; rw [e1]
      · exact nomatch e
    · rcases keyIs_shape hb with ⟨j, u, rfl, e⟩ | ⟨y, u, rfl, e⟩
      · exact nomatch e
      · injection e with e1 _; rw [e1]
  byValue := fun k v h => by
    rcases keyIs_shape h with ⟨i, t, rfl, rfl⟩ | ⟨x, t, rfl, rfl⟩ <;> rfl
  pyHash := fun hv h => by
    rcases keyIs_shape hv with ⟨i, t, rfl, rfl⟩ | ⟨x, t, rfl, rfl⟩
    · exact wpAny_pyHash_int h
    · exact wpAny_pyHash_str h
  eqBool := fun hu hv h => by
    rcases keyIs_shape hu with ⟨i, t, rfl, rfl⟩ | ⟨x, t, rfl, rfl⟩
    · rcases keyIs_shape hv with ⟨j, u, rfl, rfl⟩ | ⟨y, u, rfl, rfl⟩
      · rw [key_ll] at h; exact wpAny_eqBool_int h
      · rw [key_lr] at h; exact SeqAt.EqAt.int_str i t y u _ _ _ _ h
    · rcases keyIs_shape hv with ⟨j, u, rfl, rfl⟩ | ⟨y, u, rfl, rfl⟩
      · rw [key_rl] at h; exact SeqAt.EqAt.str_int x t j u _ _ _ _ h
      · rw [key_rr] at h; exact wpAny_eqBool_str h
  «strs» := fun k x t v h => by
    rcases keyIs_shape h with ⟨i, u, rfl, e⟩ | ⟨y, u, rfl, e⟩
    · exact nomatch e
    · injection e with e1 _
      subst e1
      cases v <;> rfl

theorem mixKind_is (prog : Program) (w : World) (k : Key) (v : Value) : (mixKind prog w).is k v = keyIs k v := rfl
theorem mixKind_int (prog : Program) (w : World) (i : Int) (t : Tok) : (mixKind prog w).is (.inl i) (.int i t) = true := keyIs_int i t
theorem mixKind_str (prog : Program) (w : World) (x : Str) (t : Tok) : (mixKind prog w).is (.inr x) (.str x t) = true := keyIs_str x t
end L2

namespace L2
open PySem PySem.Spec PyProof.Rows

/-- a value, without the heap -/
inductive V where
  | non | bl (b : Bool) | int (i : Int) | str (x : Str) | byt (b : Array UInt8) | flt (b : UInt64) | ref (a : Addr) | ty (n : String)
  deriving DecidableEq

def RelV : V → Value → Prop
  | .non, u => u = Value.none
  | .bl b, u => u = Value.bool b
  | .int i, u => ∃ t, u = Value.int i t
  | .str x, u => ∃ t, u = Value.str x t
  | .byt b, u => ∃ t, u = Value.bytes b t
  | .flt b, u => ∃ t, u = Value.float b t
  | .ref a, u => u = Value.ref a
  | .ty n, u => u = Value.type n

abbrev Vals : List V → List Value → Prop := Paired RelV
theorem Vals.length {xs : List V} {us : List Value} (r : Vals xs us) : xs.length = us.length := Paired.length r
theorem Vals.get : ∀ {xs : List V} {us : List Value} {i : Nat} {x : V}, Vals xs us → xs[i]? = some x → ∃ u, us[i]? = some u ∧ RelV x u
  | _, _, _, _, .nil, e => by simp at e
  | _, _, 0, _, .cons r _, e => by simp at e; subst e; exact ⟨_, rfl, r⟩
  | _, _, i + 1, x, .cons _ t, e => by
    obtain ⟨u, h1, h2⟩ := Vals.get (i := i) (x := x) t (by simpa using e)
    exact ⟨u, by simpa using h1, h2⟩
theorem Vals.set {x : V} {u : Value} (r : RelV x u) : ∀ {xs : List V} {us : List Value} (i : Nat), Vals xs us → Vals (xs.set i x) (us.set i u)
  | _, _, _, .nil => .nil
  | _, _, 0, .cons _ t => .cons r t
  | _, _, i + 1, .cons q t => .cons q (Vals.set r i t)
theorem Vals.append : ∀ {xs ys : List V} {us ws : List Value}, Vals xs us → Vals ys ws → Vals (xs ++ ys) (us ++ ws)
  | _, _, _, _, .nil, s => s
  | _, _, _, _, .cons r t, s => .cons r (Vals.append t s)
theorem Vals.take : ∀ {xs : List V} {us : List Value} (n : Nat), Vals xs us → Vals (xs.take n) (us.take n)
  | _, _, 0, _ => .nil
  | _, _, _ + 1, .nil => .nil
  | _, _, n + 1, .cons r t => .cons r (Vals.take n t)
theorem Vals.drop : ∀ {xs : List V} {us : List Value} (n : Nat), Vals xs us → Vals (xs.drop n) (us.drop n)
  | _, _, 0, r => r
  | _, _, _ + 1, .nil => .nil
  | _, _, n + 1, .cons _ t => Vals.drop n t
theorem Vals.none_of : ∀ {xs : List V} {us : List Value} {i : Nat}, Vals xs us → xs[i]? = none → us[i]? = none := fun {xs us i} r e => by
  have h1 := r.length
  have h2 : xs.length ≤ i := List.getElem?_eq_none_iff.mp e
  exact List.getElem?_eq_none_iff.mpr (by omega)

def RelO : Option V → Option Value → Prop
  | some v, some u => RelV v u
  | none, none => True
  | _, _ => False
def KV {κ : Type} : List (κ × V) → List (κ × Value) → Prop := Paired fun (p : κ × V) (q : κ × Value) => p.1 = q.1 ∧ RelV p.2 q.2

/-- a key of a dict (00_mix): an int or a text -/
def kV : Key → V
  | .inl i => .int i
  | .inr x => .str x

/-- what stands at a tracked address -/
inductive HO where
  /-- a list -/
  | lst (xs : List V)
  /-- a tuple (never changes) -/
  | tup (xs : List V)
  /-- a dict whose keys are ints and texts; one whose keys are tuples of ints and texts (the empty one is both) -/
  | dK (kvs : List (Key × V)) | dT (kvs : List (List Key × V))
  /-- a set of ints: its members, its size -/
  | set (S : Int → Bool) (n : Nat)
  /-- an instance of the class at C, its dict at dx, its attributes -/
  | ins (C dx : Addr) (fs : List (Str × V))
  /-- the dict of the instance at x -/
  | own (x : Addr)
  /-- the dict of an exception -/
  | xd (fs : List (Str × V))
  /-- a bound method, f of x -/
  | met (f x : Addr)
  /-- a range object lo, lo + 1, .. below hi -/
  | rng (lo hi : Int)
  /-- a thing that is known to the object (the script; a dict while a loop walks it): read, never written while it is so -/
  | frz (o : Obj) (u : HO)
  /-- a code object's table -/
  | tbl (ps : Array Value)
  /-- any other thing, by what is true of its one object (a def of one's own: SetO a S n := HO.ext fun h => ..) -/
  | ext (φ : Heap → Prop)

abbrev Hp := Addr → Option HO
def upd (H : Hp) (a : Addr) (o : HO) : Hp := fun b => if b = a then some o else H b
theorem upd_same {H : Hp} {a : Addr} {o : HO} : upd H a o a = some o := by unfold upd; rw [if_pos rfl]
theorem upd_ne {H : Hp} {a b : Addr} {o : HO} (h : b ≠ a) : upd H a o b = H b := by unfold upd; rw [if_neg h]
theorem upd_upd {H : Hp} {a : Addr} {o u : HO} : upd (upd H a o) a u = upd H a u := by
  funext b; unfold upd; split <;> rfl
/-- two objects of different content stand apart -/
theorem ne_of {H : Hp} {a b : Addr} {o u : HO} (h : H a = some o) (h' : H b = some u) (d : o ≠ u) : a ≠ b := by
  intro e; subst e; rw [h] at h'; exact d (Option.some.inj h')
theorem ne_of_none {H : Hp} {a b : Addr} {o : HO} (h : H a = some o) (h' : H b = none) : a ≠ b := by
  intro e; subst e; rw [h] at h'; cases h'

section
variable (P : Program) (w : World)
def ObjOk (H : Hp) (h : Heap) (a : Addr) : HO → Prop
  | .lst xs => xs.length ≤ sizeLine ∧ ∃ (its : List Value) (n : Nat), Vals xs its ∧ h.get? a = some { cls := .type "list", data := .seq its.toArray n }
  | .tup xs => xs.length ≤ sizeLine ∧ ∃ its : List Value, Vals xs its ∧ IsTup h a its.toArray
  | .dK kvs => kvs.length ≤ sizeLine ∧ (a == sysModules) = false ∧ ∃ vs, KV kvs vs ∧ h.DictOf (mixKind P w) a vs
  | .dT kvs => kvs.length ≤ sizeLine ∧ (a == sysModules) = false ∧ ∃ xs : List (List Key × Addr × Value),
      Paired (fun (p : List Key × V) (q : List Key × Addr × Value) => p.1 = q.1 ∧ H q.2.1 = some (.tup (p.1.map kV)) ∧ RelV p.2 q.2.2) kvs xs ∧
      ∃ o es ep, h.get? a = some o ∧ o.ExactDict ∧ o.data = .dict es ep ∧ es.toList = xs.map (entryOfKey (tupleKind (mixKind P w))) ∧ (xs.map (·.1)).Nodup
  | .set S n => h.SetOf (intKind P w) a S n
  | .ins C dx fs => H dx = some (.own a) ∧ fs.length ≤ 1000 ∧ dx ≠ a ∧ h.get? a = some (PySem.W.instObj C dx) ∧
      ∃ mA, h.Ns1 dx mA ∧ (∀ f, RelO (fs.lookup f) (mA f)) ∧ PySem.Within mA (fs.map (·.1))
  | .own _ => ∃ o, h.get? a = some o
  | .xd fs => ∃ mA, h.Ns1 a mA ∧ ∀ f, RelO (fs.lookup f) (mA f)
  | .rng lo hi => ∃ t u v, h.get? a = some { cls := .type "range", data := .fields #[.int lo t, .int hi u, .int 1 v] }
  | .frz o u => h.get? a = some o ∧ ObjOk H h a u
  | .tbl ps => h.get? a = some { cls := .none, data := .fields ps }
  | .met f x => h.get? a = some (PySem.W.methodObj (.ref f) (.ref x))
  | .ext φ => φ h ∧ (∃ o, h.get? a = some o) ∧ ∀ h1 h2 : Heap, φ h1 → (∀ o, h1.get? a = some o → h2.get? a = some o) → φ h2
/-- the abstract heap is held -/
def HOk (H : Hp) (h : Heap) : Prop := ∀ a o, H a = some o → ObjOk P w H h a o
end

section
variable {P : Program} {w : World} {H H' : Hp} {h h' : Heap} {a : Addr} {o : HO}
theorem ObjOk.lt (x : ObjOk P w H h a o) : a < h.objs.size := by
  cases o with
  | lst xs => obtain ⟨_, _, _, _, e⟩ := x; exact Heap.lt_size e
  | tup xs => obtain ⟨_, _, _, p⟩ := x; exact p.lt
  | dK kvs => obtain ⟨_, _, _, _, o, _, _, e, _⟩ := x; exact Heap.lt_size e
  | dT kvs => obtain ⟨_, _, _, _, o, _, _, e, _⟩ := x; exact Heap.lt_size e
  | set S n => obtain ⟨o, _, _, _, e, _⟩ := x; exact Heap.lt_size e
  | ins C dx fs => obtain ⟨_, _, _, e, _⟩ := x; exact Heap.lt_size e
  | own y => obtain ⟨_, e⟩ := x; exact Heap.lt_size e
  | xd fs => obtain ⟨_, ⟨_, _, _, e, _⟩, _⟩ := x; exact Heap.lt_size e
  | rng lo hi => obtain ⟨_, _, _, e⟩ := x; exact Heap.lt_size e
  | frz ob u => obtain ⟨e, _⟩ := x; exact Heap.lt_size e
  | tbl ps => exact Heap.lt_size (show h.get? a = some _ from x)
  | met f y => exact Heap.lt_size (show h.get? a = some _ from x)
  | ext φ => obtain ⟨_, ⟨_, e⟩, _⟩ := x; exact Heap.lt_size e
theorem Paired.mapP {α β : Type} {F G : α → β → Prop} : ∀ {l₁ : List α} {l₂ : List β}, Paired F l₁ l₂ → (∀ a b, F a b → G a b) → Paired G l₁ l₂
  | _, _, .nil, _ => .nil
  | _, _, .cons r t, f => .cons (f _ _ r) (Paired.mapP t f)
theorem Paired.imp' {α β : Type} {F G : α → β → Prop} (f : ∀ a b, F a b → G a b) {l₁ : List α} {l₂ : List β} (r : Paired F l₁ l₂) : Paired G l₁ l₂ := Paired.mapP r f
/-- what an object's description leans on: its own object, its own dict, the tuples -/
theorem ObjOk.stay (x : ObjOk P w H h a o) (k : ∀ b u, (b = a ∨ H b = some (.own a)) → h.get? b = some u → h'.get? b = some u)
    (ho : ∀ b, H b = some (.own a) → H' b = some (.own a)) (ht : ∀ b xs, H b = some (.tup xs) → H' b = some (.tup xs)) : ObjOk P w H' h' a o := by
  induction o with
  | lst xs => obtain ⟨z, its, n, r, e⟩ := x; exact ⟨z, its, n, r, k _ _ (.inl rfl) e⟩
  | tup xs => obtain ⟨z, its, r, ob, e, c⟩ := x; exact ⟨z, its, r, ob, k _ _ (.inl rfl) e, c⟩
  | dK kvs => obtain ⟨z, y, vs, r, ob, es, ep, e, c⟩ := x; exact ⟨z, y, vs, r, ob, es, ep, k _ _ (.inl rfl) e, c⟩
  | dT kvs =>
    obtain ⟨z, y, xs, r, ob, es, ep, e, c⟩ := x
    exact ⟨z, y, xs, Paired.mapP r fun p q z => ⟨z.1, ht _ _ z.2.1, z.2.2⟩, ob, es, ep, k _ _ (.inl rfl) e, c⟩
  | set S n => obtain ⟨ob, es, ep, t, e, c⟩ := x; exact ⟨ob, es, ep, t, k _ _ (.inl rfl) e, c⟩
  | ins C dx fs =>
    obtain ⟨d, z, ne, e, mA, ⟨od, es, ep, e2, c⟩, r⟩ := x
    exact ⟨ho _ d, z, ne, k _ _ (.inl rfl) e, mA, ⟨od, es, ep, k _ _ (.inr d) e2, c⟩, r⟩
  | own y => obtain ⟨ob, e⟩ := x; exact ⟨ob, k _ _ (.inl rfl) e⟩
  | xd fs => obtain ⟨mA, ⟨od, es, ep, e, c⟩, r⟩ := x; exact ⟨mA, ⟨od, es, ep, k _ _ (.inl rfl) e, c⟩, r⟩
  | rng lo hi => obtain ⟨t, u, v, e⟩ := x; exact ⟨t, u, v, k _ _ (.inl rfl) e⟩
  | frz ob u ih => obtain ⟨e, q⟩ := x; exact ⟨k _ _ (.inl rfl) e, ih q⟩
  | tbl ps =>
    have e : h.get? a = some { cls := .none, data := .fields ps } := x
    show h'.get? a = some { cls := .none, data := .fields ps }
    exact k a _ (.inl rfl) e
  | met f y =>
    have e : h.get? a = some (PySem.W.methodObj (.ref f) (.ref y)) := x
    show h'.get? a = some (PySem.W.methodObj (.ref f) (.ref y))
    exact k a _ (.inl rfl) e
  | ext φ => obtain ⟨p, ⟨o, e⟩, st⟩ := x; exact ⟨st _ _ p fun o q => k _ _ (.inl rfl) q, ⟨o, k _ _ (.inl rfl) e⟩, st⟩
theorem HOk.lt (x : HOk P w H h) (e : H a = some o) : a < h.objs.size := (x a o e).lt
theorem HOk.fresh (x : HOk P w H h) (e : h.objs.size ≤ a) : H a = none := by
  cases q : H a with
  | none => rfl
  | some u => exact absurd (Nat.lt_of_lt_of_le (x.lt q) e) (Nat.lt_irrefl _)
/-- every object of the heap is kept -/
theorem HOk.kept (x : HOk P w H h) (k : ∀ b u, h.get? b = some u → h'.get? b = some u) : HOk P w H h' := fun a o e =>
  (x a o e).stay (fun b u _ q => k b u q) (fun _ q => q) fun _ _ q => q
/-- a new object is laid and tracked -/
theorem HOk.laid (x : HOk P w H h) (k : ∀ b u, h.get? b = some u → h'.get? b = some u) (hp : h.objs.size ≤ a) (new : ObjOk P w (upd H a o) h' a o) : HOk P w (upd H a o) h' := fun b u e => by
  have hn := x.fresh hp
  by_cases hb : b = a
  · subst hb; rw [upd_same] at e; cases e; exact new
  · rw [upd_ne hb] at e
    exact (x b u e).stay (fun c v _ q => k c v q) (fun c q => by rw [upd_ne (ne_of_none q hn)]; exact q) fun c xs q => by rw [upd_ne (ne_of_none q hn)]; exact q
end

/-- what may be read as u: it is u, or a known u -/
def Rd (H : Hp) (a : Addr) (u : HO) : Prop := H a = some u ∨ ∃ o, H a = some (.frz o u)
theorem Rd.of {H : Hp} {a : Addr} {u : HO} (h : H a = some u) : Rd H a u := .inl h
theorem Rd.ok {P : Program} {w : World} {H : Hp} {h : Heap} {a : Addr} {u : HO} (r : Rd H a u) (x : HOk P w H h) : ObjOk P w H h a u := by
  rcases r with r | ⟨o, r⟩
  · exact x a u r
  · obtain ⟨_, q⟩ := x a _ r
    exact q
/-- what may be written -/
def Mut : Option HO → Prop
  | some (.lst _) => True
  | some (.dK _) => True
  | some (.dT _) => True
  | some (.set _ _) => True
  | some (.ins _ _ _) => True
  | some (.ext _) => True
  | _ => False
section
variable {P : Program} {w : World} {H : Hp} {h h' : Heap} {x e : Addr} {o' : HO}
/-- the object at e is changed: x itself, or the dict of the instance x -/
theorem HOk.write (ok : HOk P w H h) (mu : Mut (H x)) (he : e = x ∨ H e = some (.own x)) (k : ∀ b u, b ≠ e → h.get? b = some u → h'.get? b = some u) (heo : ∃ u, h'.get? e = some u)
    (new : ObjOk P w (upd H x o') h' x o') : HOk P w (upd H x o') h' := fun b u q => by
  have nown : ∀ c y, H c = some (.own y) → c ≠ x := fun c y r z => by subst z; rw [r] at mu; exact mu
  have ntup : ∀ c xs, H c = some (.tup xs) → c ≠ x := fun c xs r z => by subst z; rw [r] at mu; exact mu
  by_cases hb : b = x
  · subst hb; rw [upd_same] at q; cases q; exact new
  · rw [upd_ne hb] at q
    by_cases hbe : b = e
    · have q' : H b = some (.own x) := by
        rcases he with z | z
        · exact absurd (hbe.trans z) hb
        · rw [hbe]; exact z
      rw [q] at q'; cases q'
      obtain ⟨v, hv⟩ := heo
      exact ⟨v, by rw [hbe]; exact hv⟩
    · refine (ok b u q).stay (fun c v hc r => k c v ?_ r) (fun c r => by rw [upd_ne (nown c b r)]; exact r) fun c xs r => by rw [upd_ne (ntup c xs r)]; exact r
      rcases hc with rfl | hc
      · exact hbe
      · rintro rfl
        rcases he with z | z
        · exact nown c b hc z
        · rw [hc] at z; cases z; exact hb rfl
end

/-! ### kept unless tracked; of the frames at fs (the callers') the slots may change (an exception that passes writes there); of the records at ex (iterators) nothing is said -/
structure Un (fs ex : List Addr) (H H' : Hp) (h h' : Heap) : Prop where
  keep : ∀ b o, h.get? b = some o → H b = none → b ∉ fs → b ∉ ex → h'.get? b = some o
  slot : ∀ b o, h.get? b = some o → H b = none → b ∈ fs → b ∉ ex → ∃ sl, h'.get? b = some { o with slots := sl }
  free : ∀ b o, h.get? b = some o → H b = none → b ∉ ex → H' b = none
  there : ∀ b o, h.get? b = some o → b ∉ ex → ∃ o', h'.get? b = some o'
  tups : ∀ b xs, H b = some (.tup xs) → H' b = some (.tup xs)
  frzs : ∀ b o u, H b = some (.frz o u) → H' b = some (.frz o u)
  tbls : ∀ b ps, H b = some (.tbl ps) → ∃ more, H' b = some (.tbl (ps ++ more))
section
variable {fs fs' ex ex' : List Addr} {H H1 H2 : Hp} {h h1 h2 h' : Heap} {a x e : Addr} {o : HO}
theorem Un.any (u : Un fs ex H H1 h h1) {b : Addr} {ob : Obj} (q : h.get? b = some ob) (n : H b = none) (hx : b ∉ ex) : ∃ sl, h1.get? b = some { ob with slots := sl } := by
  by_cases hb : b ∈ fs
  · exact u.slot b ob q n hb hx
  · exact ⟨ob.slots, u.keep b ob q n hb hx⟩
theorem Un.trans (a : Un fs ex H H1 h h1) (b : Un fs ex H1 H2 h1 h2) : Un fs ex H H2 h h2 where
  keep := fun c ob q n hc hx => b.keep c ob (a.keep c ob q n hc hx) (a.free c ob q n hx) hc hx
  slot := fun c ob q n hc hx => by
    obtain ⟨sl, e1⟩ := a.slot c ob q n hc hx
    obtain ⟨sl', e2⟩ := b.slot c _ e1 (a.free c ob q n hx) hc hx
    exact ⟨sl', e2⟩
  free := fun c ob q n hx => by
    obtain ⟨o', e1⟩ := a.there c ob q hx
    exact b.free c o' e1 (a.free c ob q n hx) hx
  there := fun c ob q hx => by
    obtain ⟨o', e1⟩ := a.there c ob q hx
    exact b.there c o' e1 hx
  tups := fun c xs q => b.tups c xs (a.tups c xs q)
  frzs := fun c ob xs q => b.frzs c ob xs (a.frzs c ob xs q)
  tbls := fun c ps q => by
    obtain ⟨m1, e1⟩ := a.tbls c ps q
    obtain ⟨m2, e2⟩ := b.tbls c _ e1
    exact ⟨m1 ++ m2, by rw [e2, Array.append_assoc]⟩
theorem Un.kept (k : ∀ b u, h.get? b = some u → h'.get? b = some u) : Un fs ex H H h h' :=
  ⟨fun b ob q _ _ _ => k b ob q, fun b ob q _ _ _ => ⟨ob.slots, k b ob q⟩, fun _ _ _ n _ => n, fun b ob q _ => ⟨ob, k b ob q⟩, fun _ _ q => q, fun _ _ _ q => q, fun _ ps q => ⟨#[], by rw [q]; simp⟩⟩
theorem Un.refl : Un fs ex H H h h := Un.kept fun _ _ q => q
theorem Un.laid (k : ∀ b u, h.get? b = some u → h'.get? b = some u) (hp : h.objs.size ≤ a) (hn : H a = none) : Un fs ex H (upd H a o) h h' where
  keep := fun b u q _ _ _ => k b u q
  slot := fun b u q _ _ _ => ⟨u.slots, k b u q⟩
  free := fun b u q n _ => by rw [upd_ne (Nat.ne_of_lt (Nat.lt_of_lt_of_le (Heap.lt_size q) hp))]; exact n
  there := fun b u q _ => ⟨u, k b u q⟩
  tups := fun b xs q => by rw [upd_ne (ne_of_none q hn)]; exact q
  frzs := fun b u xs q => by rw [upd_ne (ne_of_none q hn)]; exact q
  tbls := fun b ps q => ⟨#[], by rw [upd_ne (ne_of_none q hn), q]; simp⟩
theorem Un.write (mu : Mut (H x)) (he : e = x ∨ H e = some (.own x)) (k : ∀ b u, b ≠ e → h.get? b = some u → h'.get? b = some u) (heo : ∃ u, h'.get? e = some u) : Un fs ex H (upd H x o) h h' := by
  have hx : ∀ b, H b = none → b ≠ x := fun b n z => by subst z; rw [n] at mu; exact mu
  have hb : ∀ b, H b = none → b ≠ e := fun b n z => by
    subst z
    rcases he with r | r
    · exact hx b n r
    · rw [n] at r; cases r
  have hm : ∀ b u, H b = some u → ¬ Mut (some u) → b ≠ x := fun b u q nm z => by subst z; rw [q] at mu; exact nm mu
  refine ⟨fun b u q n _ _ => k b u (hb b n) q, fun b u q n _ _ => ⟨u.slots, k b u (hb b n) q⟩, fun b u q n _ => by rw [upd_ne (hx b n)]; exact n, fun b u q _ => ?_,
    fun b xs q => by rw [upd_ne (hm b _ q fun z => z)]; exact q, fun b u xs q => by rw [upd_ne (hm b _ q fun z => z)]; exact q, fun b ps q => ⟨#[], by rw [upd_ne (hm b _ q fun z => z), q]; simp⟩⟩
  by_cases hbe : b = e
  · subst hbe; exact heo
  · exact ⟨u, k b u hbe q⟩
theorem Un.mono (u : Un fs ex H H1 h h1) (hs : ∀ b ∈ fs, b ∈ fs') (hx : ∀ b ∈ ex, b ∈ ex') : Un fs' ex' H H1 h h1 :=
  ⟨fun b ob q n hb he => u.keep b ob q n (fun z => hb (hs b z)) fun z => he (hx b z), fun _ _ q n _ he => u.any q n fun z => he (hx _ z), fun b ob q n he => u.free b ob q n fun z => he (hx b z), fun b ob q he => u.there b ob q fun z => he (hx b z), u.tups, u.frzs, u.tbls⟩
end

/-! ### the heap without what is tracked -/
def trk (h : Heap) (H : Hp) : List Addr := (List.range h.objs.size).filter fun a => (H a).isSome
def hidT (h : Heap) (H : Hp) : Heap := PySem.W.hideAll h (trk h H)
theorem hidT_size (h : Heap) (H : Hp) : (hidT h H).objs.size = h.objs.size := PySem.W.hideAll_size _ _
theorem hidT_get {h : Heap} {H : Hp} {b : Addr} {o : Obj} (e : h.get? b = some o) (n : H b = none) : (hidT h H).get? b = some o :=
  PySem.W.hideAll_get _ e fun hm => by
    have q : (H b).isSome = true := (List.mem_filter.mp hm).2
    rw [n] at q; simp at q
theorem of_hidT {h : Heap} {H : Hp} {b : Addr} {o : Obj} (e : (hidT h H).get? b = some o) : h.get? b = some o ∧ H b = none := by
  have e' : h.get? b = some o := PySem.W.of_hideAll (trk h H) e
  refine ⟨e', ?_⟩
  cases q : H b with
  | none => rfl
  | some x =>
    have hm : b ∈ trk h H := List.mem_filter.mpr ⟨List.mem_range.mpr (Heap.lt_size e'), by simp [q]⟩
    have z : (hidT h H).get? b = none := PySem.W.hideAll_none (trk h H) hm
    rw [z] at e; cases e

/-! ### OpenK's ledger, filled with every new object but one -/
def allNews (g h : Heap) (L : Addr) : List (Addr × Obj) := (List.range h.objs.size).filterMap fun a => if a = L ∨ (g.get? a).isSome = true then none else (h.get? a).map fun o => (a, o)
theorem mem_allNews {g h : Heap} {L a : Addr} {o : Obj} (h1 : a ≠ L) (h2 : g.get? a = none) (h3 : h.get? a = some o) : (a, o) ∈ allNews g h L :=
  List.mem_filterMap.mpr ⟨a, List.mem_range.mpr (Heap.lt_size h3), by simp [h1, h2, h3]⟩
theorem of_mem_allNews {g h : Heap} {L : Addr} {p : Addr × Obj} (hp : p ∈ allNews g h L) : p.1 ≠ L ∧ g.get? p.1 = none ∧ h.get? p.1 = some p.2 := by
  obtain ⟨b, _, e⟩ := List.mem_filterMap.mp hp
  split at e
  · cases e
  · rename_i hn
    cases q : h.get? b with
    | none => rw [q] at e; simp at e
    | some u =>
      rw [q] at e
      simp only [Option.map_some, Option.some.injEq] at e
      subst e
      refine ⟨fun z => hn (.inl z), ?_, q⟩
      show g.get? b = none
      cases r : g.get? b with
      | none => rfl
      | some v => exact (hn (.inr (by simp [r]))).elim
def rest (g h : Heap) (L d : Addr) : List (Addr × Obj) := (allNews g h L).filter fun p => decide (p.1 ≠ d)
theorem rest_ne {g h : Heap} {L d : Addr} : ∀ p ∈ rest g h L d, p.1 ≠ d := fun p hp => of_decide_eq_true (List.mem_filter.mp hp).2
theorem mem_rest {g h : Heap} {L d a : Addr} {o : Obj} (h1 : a ≠ L) (h2 : g.get? a = none) (h3 : h.get? a = some o) (h4 : a ≠ d) : (a, o) ∈ rest g h L d :=
  List.mem_filter.mpr ⟨mem_allNews h1 h2 h3, decide_eq_true h4⟩
theorem news_all {g h : Heap} {L : Addr} : News g L h (allNews g h L) := fun p hp => let ⟨a, b, c⟩ := of_mem_allNews hp; ⟨c, a, b⟩
theorem news_at {g h : Heap} {L d : Addr} {o : Obj} (h1 : d ≠ L) (h2 : g.get? d = none) (h3 : h.get? d = some o) : News g L h ((d, o) :: rest g h L d) := fun p hp => by
  rcases List.mem_cons.mp hp with rfl | hp
  · exact ⟨h3, h1, h2⟩
  · exact news_all p (List.mem_filter.mp hp).1
/-- behind a rule that changed d alone: all else but the frame is kept -/
theorem kept_of_news {g h h' : Heap} {L d : Addr} {m : Str → Option Value} (k : ∀ b o, g.get? b = some o → h.get? b = some o) (F : Fr g L h' m) (N : News g L h' (rest g h L d)) :
    ∀ b o, b ≠ L → b ≠ d → h.get? b = some o → h'.get? b = some o := fun b o h1 h2 e => by
  cases q : g.get? b with
  | some u =>
    have := k b u q
    rw [e] at this; cases this
    exact F.keep b _ q
  | none => exact (N (b, o) (mem_rest h1 q e h2)).1
end L2

namespace L2
open PySem PySem.Spec PyProof.Rows

/-- the module's facts, over the base: the heap at the law's entry without what is tracked there -/
structure Mod (K : PySem.W.Frag) (mg : Str → Option Value) (base : Heap) : Prop where
  kin : K.In base
  glob : base.Ns mainGlobals mg
  blt : ∃ mb, base.Ns builtinsNs mb ∧ ∀ x : Str, x ≠ "__name__" → mb x = bootBuiltins x
  nolimit : base.NoLimit

/-- the context: a def's body (or a comprehension's block) running. base: fixed through the whole law; s₀, H₀: the entry; outer: the frames whose slots others may change (a def's callers); stack: all frames that run;
   ex: iterators that were made ahead of the entry and are walked here (a comprehension's); fn: the names whose cells were made at the entry (a def: all; a comprehension's block: its own); calm: not within an except suite; pn: pins that every state bears; xe: what is wanted of an exception that leaves the code -/
structure Cx where
  prog : Program
  w : World
  K : PySem.W.Frag
  mg : Str → Option Value
  base : Heap
  A : Around
  N : List Str
  s₀ : Shared
  H₀ : Hp
  env : Env
  outer : List Env
  stack : List Env
  ex : List Addr
  fn : Str → Bool
  calm : Bool
  pn : List (Addr × Obj)
  xe : Value → Shared → Prop
/-- the callers' frames -/
def frs (l : List Env) : List Addr := l.filterMap (·.frame)
abbrev Cx.fs (X : Cx) : List Addr := frs X.outer

def Vis (sc : Scope) (x : Str) : Prop := sc.names.lookup x = some .local ∨ sc.names.lookup x = some .cell ∨ sc.names.lookup x = some .free
def Loc (sc : Scope) (x : Str) : Prop := sc.names.lookup x = some .local ∨ sc.names.lookup x = some .cell
def Look (env : Env) (h : Heap) (m : Str → Option Value) (x : Str) (u : Value) : Prop :=
  (env.kindOf x = some .local ∧ m x = some u) ∨ ((env.kindOf x = some .cell ∨ env.kindOf x = some .free) ∧ ∃ c, env.cells.lookup x = some c ∧ h.IsCell c (some u))

structure Cx.Ok (X : Cx) : Prop where
  mod : Mod X.K X.mg X.base
  kind : X.env.scope.kind = .function
  glob : X.env.globals = mainGlobals
  blt : X.env.builtins = builtinsNs
  above : X.s₀.heap.objs.size ≤ X.env.locals
  inj : ∀ x y c, X.env.cells.lookup x = some c → X.env.cells.lookup y = some c → x = y
  has : ∀ x, (X.env.kindOf x = some .cell ∨ X.env.kindOf x = some .free) → ∃ c, X.env.cells.lookup x = some c
  cab : ∀ x c, X.fn x = true → X.env.cells.lookup x = some c → X.s₀.heap.objs.size ≤ c
  hd : X.calm = true → X.A.handled = none
  frames : X.A.frames = some X.stack
  stk : X.stack = X.outer ∨ (X.stack = X.env :: X.outer ∧ X.env.frame = some X.env.locals)
  exf : ∀ b ∈ X.ex, b ≠ X.env.locals ∧ ∀ x c, X.env.cells.lookup x = some c → c ≠ b
  bs : ∀ b o, X.base.get? b = some o → X.s₀.heap.get? b = some o ∧ X.H₀ b = none
  bsz : X.base.objs.size ≤ X.s₀.heap.objs.size
  noex : ∀ b o, X.base.get? b = some o → b ∉ X.ex
  exfs : ∀ b ∈ X.ex, b ∉ X.fs
  funs : X.s₀.heap.FunFrames X.base X.outer
  frf : ∀ b ∈ X.fs, X.H₀ b = none

structure Inv (X : Cx) (pins : List (Addr × Obj)) (σ : List (Option V)) (H : Hp) (s : Shared) : Prop where
  ok : X.Ok
  os : s.os = X.s₀.os
  bare : AllBare s.gens
  base : Un X.fs X.ex X.H₀ H X.s₀.heap s.heap
  loc : ∃ m, s.heap.Ns X.env.locals m ∧ ∀ (i : Nat) (x : Str) (v : V), X.N[i]? = some x → σ[i]? = some (some v) → Vis X.env.scope x → ∃ u, RelV v u ∧ Look X.env s.heap m x u
  cell : ∀ x c, X.env.cells.lookup x = some c → ∃ v, s.heap.IsCell c v
  free : H X.env.locals = none
  freeC : ∀ x c, X.env.cells.lookup x = some c → H c = none
  pin : ∀ p ∈ X.pn ++ pins, s.heap.get? p.1 = some p.2 ∧ H p.1 = none ∧ p.1 ≠ X.env.locals ∧ p.1 ∉ X.fs ∧ ∀ v, p.2.data ≠ .cell v
  hok : HOk X.prog X.w H s.heap
  len : σ.length = X.N.length

section
variable {X : Cx} {pins : List (Addr × Obj)} {σ : List (Option V)} {H H' : Hp} {s : Shared} {h' : Heap}

theorem Cx.Ok.nofr (ok : X.Ok) {b : Addr} {o : Obj} (e : X.base.get? b = some o) : b ∉ X.fs := fun hb => by
  have := (ok.funs.mem hb).1
  rw [e] at this; cases this
theorem Inv.bs (I : Inv X pins σ H s) : ∀ b o, X.base.get? b = some o → s.heap.get? b = some o ∧ H b = none := fun b o e =>
  ⟨I.base.keep b o (I.ok.bs b o e).1 (I.ok.bs b o e).2 (I.ok.nofr e) (I.ok.noex b o e), I.base.free b o (I.ok.bs b o e).1 (I.ok.bs b o e).2 (I.ok.noex b o e)⟩
theorem Inv.bk (I : Inv X pins σ H s) : ∀ b o, X.base.get? b = some o → s.heap.get? b = some o := fun b o e => (I.bs b o e).1
theorem Inv.mod (I : Inv X pins σ H s) : Mod X.K X.mg X.base := I.ok.mod
theorem Inv.kIn (I : Inv X pins σ H s) : X.K.In s.heap := I.ok.mod.kin.keeps I.bk
theorem Inv.nolimit (I : Inv X pins σ H s) : s.heap.NoLimit := I.ok.mod.nolimit.keeps I.bk
/-- the frame over the base: for OpenK's rules (K.In X.base is I.mod.kin) -/
theorem Inv.fr (I : Inv X pins σ H s) : ∃ m, Fr X.base X.env.locals s.heap m :=
  let ⟨m, hn, _⟩ := I.loc
  ⟨m, hn, I.bk, Nat.le_trans I.ok.bsz I.ok.above⟩
theorem Inv.lt (I : Inv X pins σ H s) : X.env.locals < s.heap.objs.size := let ⟨_, hn, _⟩ := I.loc; hn.lt
theorem Inv.sz (I : Inv X pins σ H s) : X.s₀.heap.objs.size ≤ s.heap.objs.size := Nat.le_trans I.ok.above (Nat.le_of_lt I.lt)
theorem Inv.nofs (I : Inv X pins σ H s) {a : Addr} (h : s.heap.objs.size ≤ a) : a ∉ X.fs := fun hb => by
  obtain ⟨_, o, ho, _⟩ := I.ok.funs.mem hb
  exact absurd (Nat.lt_of_lt_of_le (Heap.lt_size ho) (Nat.le_trans I.sz h)) (Nat.lt_irrefl _)
theorem Inv.cne (I : Inv X pins σ H s) : ∀ x c, X.env.cells.lookup x = some c → c ≠ X.env.locals := fun x c e z => by
  obtain ⟨v, o, ho, hd⟩ := I.cell x c e
  obtain ⟨m, ⟨o', es, ep, ho', hd', _⟩, _⟩ := I.loc
  rw [z, ho'] at ho; cases ho; rw [hd'] at hd; cases hd
theorem Inv.funs (I : Inv X pins σ H s) : s.heap.FunFrames X.base X.outer := by
  have all : ∀ (l : List Env), (∀ b ∈ frs l, b ∈ X.fs) → X.s₀.heap.FunFrames X.base l → s.heap.FunFrames X.base l := by
    intro l
    induction l with
    | nil => intro _ _; trivial
    | cons env r ih =>
      intro hs hl
      obtain ⟨hk, ⟨L, o, hf, hn, ho, hd⟩, hr⟩ := hl
      have hL : L ∈ X.fs := hs L (by unfold frs; rw [List.filterMap_cons, hf]; exact List.mem_cons_self)
      obtain ⟨sl, e⟩ := I.base.slot L o ho (I.ok.frf L hL) hL fun z => I.ok.exfs L z hL
      exact ⟨hk, ⟨L, _, hf, hn, e, hd⟩, ih (fun b hb => hs b (by unfold frs; rw [List.filterMap_cons, hf]; exact List.mem_cons_of_mem _ hb)) hr⟩
  exact all X.outer (fun _ hb => hb) I.ok.funs

/-- the frames that run, for a call -/
theorem Inv.stack (I : Inv X pins σ H s) : s.heap.FunFrames X.base X.stack := by
  rcases I.ok.stk with e | ⟨e, hf⟩
  · rw [e]; exact I.funs
  · rw [e]
    obtain ⟨m, hn, _⟩ := I.loc
    refine .cons (by rw [I.ok.kind]; decide) hf hn ?_ I.funs
    exact Heap.get?_none_of_le (Nat.le_trans I.ok.bsz I.ok.above)
theorem Inv.stkSub (I : Inv X pins σ H s) : ∀ b ∈ frs X.stack, b ∈ X.env.locals :: X.fs := fun b hb => by
  rcases I.ok.stk with e | ⟨e, hf⟩
  · rw [e] at hb; exact List.mem_cons_of_mem _ hb
  · rw [e] at hb
    unfold frs at hb
    rw [List.filterMap_cons, hf] at hb
    exact hb
theorem Inv.stkFree (I : Inv X pins σ H s) : ∀ b ∈ frs X.stack, H b = none := fun b hb => by
  rcases List.mem_cons.mp (I.stkSub b hb) with e | hb
  · rw [e]; exact I.free
  · obtain ⟨_, o, ho, _⟩ := I.ok.funs.mem hb
    exact I.base.free b o ho (I.ok.frf b hb) fun z => I.ok.exfs b z hb

/-- THE STEP: the untracked objects but the frame and the records at ch are kept (the callers' frames up to slots), the frame's map is kept, the new abstract heap is held -/
theorem Inv.step {g' : Array GenState} {t' : Nat} {d' : Drawn} {ch : List Addr} (I : Inv X pins σ H s)
    (hch : ∀ b ∈ ch, (b ∈ X.ex ∨ X.s₀.heap.objs.size ≤ b) ∧ b ≠ X.env.locals ∧ (∀ x c, X.env.cells.lookup x = some c → c ≠ b) ∧ ∀ p ∈ X.pn ++ pins, p.1 ≠ b)
    (keep : ∀ b o, b ≠ X.env.locals → b ∉ X.fs → b ∉ ch → s.heap.get? b = some o → H b = none → h'.get? b = some o)
    (slot : ∀ b o, b ≠ X.env.locals → b ∈ X.fs → b ∉ ch → s.heap.get? b = some o → H b = none → ∃ sl, h'.get? b = some { o with slots := sl }) (free : ∀ b o, b ∉ ch → s.heap.get? b = some o → H b = none → H' b = none)
    (there : ∀ b o, b ∉ ch → s.heap.get? b = some o → ∃ o', h'.get? b = some o')
    (tups : ∀ b xs, H b = some (.tup xs) → H' b = some (.tup xs)) (frzs : ∀ b o u, H b = some (.frz o u) → H' b = some (.frz o u)) (tbls : ∀ b ps, H b = some (.tbl ps) → ∃ more, H' b = some (.tbl (ps ++ more)))
    (ns : ∀ m, s.heap.Ns X.env.locals m → h'.Ns X.env.locals m) (hok : HOk X.prog X.w H' h') (hg : AllBare g') :
    Inv X pins σ H' { s with heap := h', gens := g', drawn := d', toks := t' } := by
  have neL : ∀ b o, X.s₀.heap.get? b = some o → b ≠ X.env.locals := fun b o e => Nat.ne_of_lt (Nat.lt_of_lt_of_le (Heap.lt_size e) I.ok.above)
  have neC : ∀ b o, X.s₀.heap.get? b = some o → b ∉ X.ex → b ∉ ch := fun b o e hx hb => by
    rcases (hch b hb).1 with z | z
    · exact hx z
    · exact absurd (Nat.lt_of_lt_of_le (Heap.lt_size e) z) (Nat.lt_irrefl _)
  have cellK : ∀ x c, X.env.cells.lookup x = some c → ∀ v, s.heap.IsCell c v → h'.IsCell c v := fun x c e v ⟨o, ho, hd⟩ => by
    have nch : c ∉ ch := fun z => (hch c z).2.2.1 x c e rfl
    by_cases hc : c ∈ X.fs
    · obtain ⟨sl, q⟩ := slot c o (I.cne x c e) hc nch ho (I.freeC x c e)
      exact ⟨_, q, hd⟩
    · exact ⟨o, keep c o (I.cne x c e) hc nch ho (I.freeC x c e), hd⟩
  refine ⟨I.ok, I.os, hg, ⟨fun b o e n hb hx => ?_, fun b o e n hb hx => ?_, fun b o e n hx => ?_, fun b o e hx => ?_, fun b xs e => tups b xs (I.base.tups b xs e), fun b o xs e => frzs b o xs (I.base.frzs b o xs e), fun b ps e => ?_⟩, ?_, fun x c e => ?_, ?_, fun x c e => ?_, fun p hp => ?_, hok, I.len⟩
  · exact keep b o (neL b o e) hb (neC b o e hx) (I.base.keep b o e n hb hx) (I.base.free b o e n hx)
  · obtain ⟨sl, e1⟩ := I.base.slot b o e n hb hx
    obtain ⟨sl', e2⟩ := slot b _ (neL b o e) hb (neC b o e hx) e1 (I.base.free b o e n hx)
    exact ⟨sl', e2⟩
  · obtain ⟨o', e1⟩ := I.base.there b o e hx
    exact free b o' (neC b o e hx) e1 (I.base.free b o e n hx)
  · obtain ⟨o', e1⟩ := I.base.there b o e hx
    exact there b o' (neC b o e hx) e1
  · obtain ⟨m1, e1⟩ := I.base.tbls b ps e
    obtain ⟨m2, e2⟩ := tbls b _ e1
    exact ⟨m1 ++ m2, by rw [e2, Array.append_assoc]⟩
  · obtain ⟨m, hn, hl⟩ := I.loc
    refine ⟨m, ns m hn, fun i x v e1 e2 e3 => ?_⟩
    obtain ⟨u, r, l⟩ := hl i x v e1 e2 e3
    refine ⟨u, r, ?_⟩
    rcases l with l | ⟨k, c, e, z⟩
    · exact .inl l
    · exact .inr ⟨k, c, e, cellK x c e _ z⟩
  · obtain ⟨v, z⟩ := I.cell x c e
    exact ⟨v, cellK x c e v z⟩
  · obtain ⟨m, ⟨o, _, _, ho, _⟩, _⟩ := I.loc
    exact free _ o (fun z => (hch _ z).2.1 rfl) ho I.free
  · obtain ⟨v, o, ho, hd⟩ := I.cell x c e
    exact free c o (fun z => (hch c z).2.2.1 x c e rfl) ho (I.freeC x c e)
  · obtain ⟨e, n, ne, nf, d⟩ := I.pin p hp
    have nch : p.1 ∉ ch := fun z => (hch p.1 z).2.2.2 p hp rfl
    exact ⟨keep p.1 p.2 ne nf nch e n, free p.1 p.2 nch e n, ne, nf, d⟩
/-- .. where the frame's own object is kept too -/
theorem Inv.un {t' : Nat} (I : Inv X pins σ H s) (u : Un X.fs [] H H' s.heap h') (hok : HOk X.prog X.w H' h') : Inv X pins σ H' { s with heap := h', toks := t' } := by
  obtain ⟨m, ⟨o, es, ep, ho, r⟩, _⟩ := id I.loc
  obtain ⟨sl, hL⟩ := u.any ho I.free (by simp)
  exact I.step (g' := s.gens) (d' := s.drawn) (ch := []) (fun _ z => nomatch z) (fun b o _ hb _ e n => u.keep b o e n hb (by simp)) (fun b o _ hb _ e n => u.slot b o e n hb (by simp)) (fun b o _ e n => u.free b o e n (by simp)) (fun b o _ e => u.there b o e (by simp)) u.tups u.frzs u.tbls (fun m' hm => by
    obtain ⟨o', es', ep', ho', r'⟩ := hm
    rw [ho] at ho'; cases ho'
    exact ⟨_, es', ep', hL, r'⟩) hok I.bare
/-- behind a call (or a comprehension's block): the slots of this frame may have changed too, the records at ch may have turned -/
theorem Inv.call {g' : Array GenState} {t' : Nat} {d' : Drawn} {ch : List Addr} (I : Inv X pins σ H s) (u : Un (frs X.stack) ch H H' s.heap h') (hok : HOk X.prog X.w H' h') (hg : AllBare g')
    (hch : ∀ b ∈ ch, (b ∈ X.ex ∨ X.s₀.heap.objs.size ≤ b) ∧ b ≠ X.env.locals ∧ (∀ x c, X.env.cells.lookup x = some c → c ≠ b) ∧ ∀ p ∈ X.pn ++ pins, p.1 ≠ b) :
    Inv X pins σ H' { s with heap := h', gens := g', drawn := d', toks := t' } := by
  obtain ⟨m, ⟨o, es, ep, ho, r⟩, _⟩ := id I.loc
  obtain ⟨sl, hL⟩ := u.any ho I.free fun z => (hch _ z).2.1 rfl
  exact I.step (ch := ch) hch (fun b o hL hb hc e n => u.keep b o e n (fun z => (List.mem_cons.mp (I.stkSub b z)).elim hL hb) hc) (fun b o _ _ hc e n => u.any e n hc) (fun b o hc e n => u.free b o e n hc) (fun b o hc e => u.there b o e hc) u.tups u.frzs u.tbls (fun m' hm => by
    obtain ⟨o', es', ep', ho', r'⟩ := hm
    rw [ho] at ho'; cases ho'
    exact ⟨_, es', ep', hL, r'⟩) hok hg
/-- an untracked record of ours (an iterator) has turned -/
theorem Inv.turned {t' : Nat} {it : Addr} (I : Inv X pins σ H s) (k : ∀ b o, b ≠ it → s.heap.get? b = some o → h'.get? b = some o) (hn : H it = none) (hL : it ≠ X.env.locals)
    (h1 : it ∈ X.ex ∨ X.s₀.heap.objs.size ≤ it) (h2 : ∀ x c, X.env.cells.lookup x = some c → c ≠ it) (h3 : ∀ p ∈ X.pn ++ pins, p.1 ≠ it) : Inv X pins σ H { s with heap := h', toks := t' } := by
  have nit : ∀ b u, H b = some u → b ≠ it := fun b u e z => by rw [z, hn] at e; cases e
  refine I.step (g' := s.gens) (d' := s.drawn) (ch := [it]) (fun b hb => ?_) (fun b o _ _ hc e _ => k b o (fun z => hc (by simp [z])) e) (fun b o _ _ hc e _ => ⟨o.slots, k b o (fun z => hc (by simp [z])) e⟩) (fun _ _ _ _ n => n)
    (fun b o hc e => ⟨o, k b o (fun z => hc (by simp [z])) e⟩) (fun _ _ e => e) (fun _ _ _ e => e) (fun b ps e => ⟨#[], by rw [e]; simp⟩) (fun m hm => ?_) (fun b u e => ?_) I.bare
  · have e : b = it := by simpa using hb
    subst e
    exact ⟨h1, hL, h2, h3⟩
  · obtain ⟨o, es, ep, ho, r⟩ := hm
    exact ⟨o, es, ep, k _ o (Ne.symm hL) ho, r⟩
  · refine (I.hok b u e).stay (fun c v hc q => k c v ?_ q) (fun _ q => q) fun _ _ q => q
    rcases hc with z | z
    · rw [z]; exact nit b u e
    · exact nit c _ z
theorem Inv.tok (I : Inv X pins σ H s) (t : Nat) : Inv X pins σ H { s with toks := t } := I.un (h' := s.heap) (t' := t) Un.refl I.hok
/-- all objects kept -/
theorem Inv.kept {t' : Nat} (I : Inv X pins σ H s) (k : ∀ b u, s.heap.get? b = some u → h'.get? b = some u) : Inv X pins σ H { s with heap := h', toks := t' } := I.un (Un.kept k) (I.hok.kept k)
/-- a new object laid and tracked -/
theorem Inv.laid {a : Addr} {o : HO} {t' : Nat} (I : Inv X pins σ H s) (k : ∀ b u, s.heap.get? b = some u → h'.get? b = some u) (hp : s.heap.objs.size ≤ a) (new : ObjOk X.prog X.w (upd H a o) h' a o) :
    Inv X pins σ (upd H a o) { s with heap := h', toks := t' } := I.un (Un.laid k hp (I.hok.fresh hp)) (I.hok.laid k hp new)
/-- an object written -/
theorem Inv.write {x e : Addr} {o : HO} {t' : Nat} (I : Inv X pins σ H s) (mu : Mut (H x)) (he : e = x ∨ H e = some (.own x)) (k : ∀ b u, b ≠ e → s.heap.get? b = some u → h'.get? b = some u) (heo : ∃ u, h'.get? e = some u)
    (new : ObjOk X.prog X.w (upd H x o) h' x o) : Inv X pins σ (upd H x o) { s with heap := h', toks := t' } := I.un (Un.write mu he k heo) (I.hok.write mu he k heo new)
/-- forgetting slots, pins -/
theorem Inv.weak {σ' : List (Option V)} (I : Inv X pins σ H s) (hl : σ'.length = σ.length) (w : ∀ (i : Nat) v, σ'[i]? = some (some v) → σ[i]? = some (some v)) : Inv X pins σ' H s :=
  ⟨I.ok, I.os, I.bare, I.base, let ⟨m, hn, hl'⟩ := I.loc; ⟨m, hn, fun i x v e1 e2 e3 => hl' i x v e1 (w i v e2) e3⟩, I.cell, I.free, I.freeC, I.pin, I.hok, hl.trans I.len⟩
theorem Inv.pins_of {pins' : List (Addr × Obj)} (I : Inv X pins σ H s) (h : ∀ p ∈ pins', s.heap.get? p.1 = some p.2 ∧ H p.1 = none ∧ p.1 ≠ X.env.locals ∧ p.1 ∉ X.fs ∧ ∀ v, p.2.data ≠ .cell v) : Inv X pins' σ H s :=
  ⟨I.ok, I.os, I.bare, I.base, I.loc, I.cell, I.free, I.freeC, fun p hp => (List.mem_append.mp hp).elim (fun z => I.pin p (List.mem_append_left _ z)) (h p), I.hok, I.len⟩

theorem nodup_ix {N : List Str} (hN : N.Nodup) {i j : Nat} {x : Str} (a : N[i]? = some x) (b : N[j]? = some x) : i = j := by
  obtain ⟨h1, e1⟩ := List.getElem?_eq_some_iff.mp a
  obtain ⟨h2, e2⟩ := List.getElem?_eq_some_iff.mp b
  exact (List.getElem_inj hN).mp (e1.trans e2.symm)

/-- a name is stored; what changed -/
theorem store_ok2 {M : Model} {A : Around} {E : Value → Shared → Prop} {i : Nat} {x : Str} {v : V} {u : Value} {Q : Unit → Shared → Prop} (I : Inv X pins σ H s) (hN : X.N.Nodup) (hi : X.N[i]? = some x) (hx : Loc X.env.scope x) (r : RelV v u)
    (h : ∀ s', Inv X pins (σ.set i (some v)) H s' → (∃ a, Heap.SameBut a s.heap s'.heap ∧ (a = X.env.locals ∨ X.env.cells.lookup x = some a)) → Q () s') (hf : X.fn x = true ∨ X.env.scope.names.lookup x = some .local := by first | exact .inl rfl | exact .inr rfl | assumption) : wpAny M A (storeName X.env x u) Q E s := by
  obtain ⟨m, hn, hl⟩ := id I.loc
  have hcls : (X.env.scope.kind == .class || (X.env.scope.kind == .module && X.env.locals != X.env.globals)) = false := by rw [I.ok.kind]; rfl
  have hiσ : i < σ.length := by rw [I.len]; exact (List.getElem?_eq_some_iff.mp hi).1
  have cne := I.cne
  have tracked : ∀ {a : Addr} {h' : Heap}, (∃ o, s.heap.get? a = some o ∧ H a = none) → Heap.SameBut a s.heap h' → HOk X.prog X.w H h' := fun {a h'} ha hs b ob e => by
    obtain ⟨_, _, hfree⟩ := ha
    refine (I.hok b ob e).stay (fun c w' hc q => (hs.2 c ?_).trans q) (fun _ q => q) fun _ _ q => q
    rintro rfl
    rcases hc with rfl | hc
    · rw [hfree] at e; cases e
    · rw [hfree] at hc; cases hc
  rcases hx with hk | hk
  · refine wpAny_storeName_local hk hn (fun h' hn' hs => ?_) hcls
    obtain ⟨oL, _, _, hoL, _⟩ := id hn
    refine h _ ⟨I.ok, I.os, I.bare, ⟨fun b o e n hb hx => ?_, fun b o e n hb hx => ?_, I.base.free, fun b o e hx => ?_, I.base.tups, I.base.frzs, I.base.tbls⟩, ⟨_, hn', fun j y v' e1 e2 e3 => ?_⟩, fun y c e => ?_, I.free, I.freeC, fun p hp => ?_, tracked ⟨oL, hoL, I.free⟩ hs, by simpa using I.len⟩ ⟨_, hs, .inl rfl⟩
    · exact (hs.2 b (Nat.ne_of_lt (Nat.lt_of_lt_of_le (Heap.lt_size e) I.ok.above))).trans (I.base.keep b o e n hb hx)
    · obtain ⟨sl, e1⟩ := I.base.slot b o e n hb hx
      exact ⟨sl, (hs.2 b (Nat.ne_of_lt (Nat.lt_of_lt_of_le (Heap.lt_size e) I.ok.above))).trans e1⟩
    · obtain ⟨o', e1⟩ := I.base.there b o e hx
      exact ⟨o', (hs.2 b (Nat.ne_of_lt (Nat.lt_of_lt_of_le (Heap.lt_size e) I.ok.above))).trans e1⟩
    · by_cases hj : j = i
      · subst hj
        rw [hi] at e1; cases e1
        rw [List.getElem?_set_self hiσ] at e2
        cases e2
        exact ⟨u, r, .inl ⟨hk, by simp⟩⟩
      · rw [List.getElem?_set_ne (Ne.symm hj)] at e2
        obtain ⟨u', r', q⟩ := hl j y v' e1 e2 e3
        refine ⟨u', r', ?_⟩
        rcases q with ⟨k, e⟩ | ⟨k, c, e, z⟩
        · refine .inl ⟨k, ?_⟩
          have : y ≠ x := fun e => hj (nodup_ix hN e1 (e ▸ hi))
          simp [this, e]
        · exact .inr ⟨k, c, e, z.sameBut hs (cne y c e)⟩
    · obtain ⟨w', z⟩ := I.cell y c e
      exact ⟨w', z.sameBut hs (cne y c e)⟩
    · obtain ⟨e, n, ne, nf, d⟩ := I.pin p hp
      exact ⟨(hs.2 p.1 ne).trans e, n, ne, nf, d⟩
  · have hfn : X.fn x = true := by
      rcases hf with z | z
      · exact z
      · rw [z] at hk; cases hk
    obtain ⟨c, hc⟩ := I.ok.has x (.inl hk)
    obtain ⟨w', z⟩ := I.cell x c hc
    refine wpAny_storeName_cell I.ok.kind hk hc z (fun h' hc' hs => ?_)
    obtain ⟨oc, hoc, hocd⟩ := id z
    refine h { s with heap := h' } ⟨I.ok, I.os, I.bare, ⟨fun b o e n hb hx => ?_, fun b o e n hb hx => ?_, I.base.free, fun b o e hx => ?_, I.base.tups, I.base.frzs, I.base.tbls⟩, ⟨m, hn.sameBut hs (Ne.symm (cne x c hc)), fun j y v' e1 e2 e3 => ?_⟩, fun y c' e => ?_, I.free, I.freeC, fun p hp => ?_, tracked ⟨oc, hoc, I.freeC x c hc⟩ hs, by simpa using I.len⟩ ⟨c, hs, .inr hc⟩
    · exact (hs.2 b (Nat.ne_of_lt (Nat.lt_of_lt_of_le (Heap.lt_size e) (I.ok.cab x c hfn hc)))).trans (I.base.keep b o e n hb hx)
    · obtain ⟨sl, e1⟩ := I.base.slot b o e n hb hx
      exact ⟨sl, (hs.2 b (Nat.ne_of_lt (Nat.lt_of_lt_of_le (Heap.lt_size e) (I.ok.cab x c hfn hc)))).trans e1⟩
    · obtain ⟨o', e1⟩ := I.base.there b o e hx
      exact ⟨o', (hs.2 b (Nat.ne_of_lt (Nat.lt_of_lt_of_le (Heap.lt_size e) (I.ok.cab x c hfn hc)))).trans e1⟩
    · by_cases hj : j = i
      · subst hj
        rw [hi] at e1; cases e1
        rw [List.getElem?_set_self hiσ] at e2
        cases e2
        exact ⟨u, r, .inr ⟨.inl hk, c, hc, hc'⟩⟩
      · rw [List.getElem?_set_ne (Ne.symm hj)] at e2
        obtain ⟨u', r', q⟩ := hl j y v' e1 e2 e3
        refine ⟨u', r', ?_⟩
        rcases q with q | ⟨k, c', e, z'⟩
        · exact .inl q
        · refine .inr ⟨k, c', e, z'.sameBut hs ?_⟩
          rintro rfl
          exact hj (nodup_ix hN e1 (I.ok.inj _ _ _ e hc ▸ hi))
    · by_cases hcc : c' = c
      · subst hcc; exact ⟨_, hc'⟩
      · obtain ⟨w2, z2⟩ := I.cell y c' e
        exact ⟨w2, z2.sameBut hs hcc⟩
    · obtain ⟨e, n, ne, nf, d⟩ := I.pin p hp
      refine ⟨(hs.2 p.1 ?_).trans e, n, ne, nf, d⟩
      intro q
      rw [q, hoc] at e
      have q' : oc = p.2 := Option.some.inj e
      exact d w' (by rw [← q']; exact hocd)
theorem store_ok {M : Model} {A : Around} {E : Value → Shared → Prop} {i : Nat} {x : Str} {v : V} {u : Value} {Q : Unit → Shared → Prop} (I : Inv X pins σ H s) (hN : X.N.Nodup) (hi : X.N[i]? = some x) (hx : Loc X.env.scope x) (r : RelV v u)
    (h : ∀ s', Inv X pins (σ.set i (some v)) H s' → Q () s') (hf : X.fn x = true ∨ X.env.scope.names.lookup x = some .local := by first | exact .inl rfl | exact .inr rfl | assumption) : wpAny M A (storeName X.env x u) Q E s :=
  store_ok2 I hN hi hx r (fun s' I' _ => h s' I') hf
/-- behind a call or a block, the state as it is -/
theorem Inv.call' {s' : Shared} {ch : List Addr} (I : Inv X pins σ H s) (ho : s'.os = s.os) (u : Un (frs X.stack) ch H H' s.heap s'.heap) (hok : HOk X.prog X.w H' s'.heap) (hg : AllBare s'.gens)
    (hch : ∀ b ∈ ch, (b ∈ X.ex ∨ X.s₀.heap.objs.size ≤ b) ∧ b ≠ X.env.locals ∧ (∀ x c, X.env.cells.lookup x = some c → c ≠ b) ∧ ∀ p ∈ X.pn ++ pins, p.1 ≠ b) : Inv X pins σ H' s' := by
  obtain ⟨h', g', d', t', o'⟩ := s'
  have e : o' = s.os := ho
  subst e
  exact I.call (g' := g') (t' := t') (d' := d') u hok hg hch
end

/-! ### the judgements -/
/-- an exception: its class, its own dict's address (where it has one), the abstract heap behind it -/
abbrev XK := Value → Option Addr → Hp → Prop
abbrev St := List (Option V)
abbrev VK := V → Hp → Prop
/-- an expression's reading; a test's; an argument list's -/
abbrev TE := St → Hp → VK → Prop
abbrev TT := St → Hp → (Bool → Hp → Prop) → Prop
abbrev TA := St → Hp → (List V → Hp → Prop) → Prop
/-- what is wanted behind a statement -/
structure Ends where
  nx : St → Hp → Prop
  rt : VK
  bk : St → Hp → Prop := fun _ _ => False
  ct : St → Hp → Prop := fun _ _ => False
abbrev TS := Ends → St → Hp → Prop

def EP (X : Cx) (pins : List (Addr × Obj)) (σ : St) (Q : VK) (u : Value) (s' : Shared) : Prop := ∃ v H', Inv X pins σ H' s' ∧ RelV v u ∧ Q v H'
def TP (X : Cx) (pins : List (Addr × Obj)) (σ : St) (Q : Bool → Hp → Prop) (b : Bool) (s' : Shared) : Prop := ∃ H', Inv X pins σ H' s' ∧ Q b H'
def AP (X : Cx) (pins : List (Addr × Obj)) (σ : St) (Q : List V → Hp → Prop) (us : List Value) (s' : Shared) : Prop := ∃ vs H', Inv X pins σ H' s' ∧ Vals vs us ∧ Q vs H'
def SP (X : Cx) (pins : List (Addr × Obj)) (D : Ends) (f : Flow) (s' : Shared) : Prop :=
  match f with
  | .next => ∃ σ' H', Inv X pins σ' H' s' ∧ D.nx σ' H'
  | .brk => ∃ σ' H', Inv X pins σ' H' s' ∧ D.bk σ' H'
  | .cont => ∃ σ' H', Inv X pins σ' H' s' ∧ D.ct σ' H'
  | .ret u => ∃ v σ' H', Inv X pins σ' H' s' ∧ RelV v u ∧ D.rt v H'

def PE (X : Cx) (e : Expr) (t : TE) : Prop :=
  ∀ (pins : List (Addr × Obj)) (s : Shared) (σ : St) (H : Hp) (Q : VK), Inv X pins σ H s → t σ H Q → wpAny (model X.prog X.w) X.A (eval e X.env) (EP X pins σ Q) X.xe s
def PT (X : Cx) (e : Expr) (t : TT) : Prop :=
  ∀ (pins : List (Addr × Obj)) (s : Shared) (σ : St) (H : Hp) (Q : Bool → Hp → Prop), Inv X pins σ H s → t σ H Q → wpAny (model X.prog X.w) X.A (isTrue e X.env (eval e X.env)) (TP X pins σ Q) X.xe s
/-- a test whatever its 'whole' is (and, or) -/
def PW (X : Cx) (e : Expr) (t : TT) : Prop :=
  ∀ (whole : Sem Value) (pins : List (Addr × Obj)) (s : Shared) (σ : St) (H : Hp) (Q : Bool → Hp → Prop), Inv X pins σ H s → t σ H Q → wpAny (model X.prog X.w) X.A (isTrue e X.env whole) (TP X pins σ Q) X.xe s
theorem PW.pt {X : Cx} {e : Expr} {t : TT} (h : PW X e t) : PT X e t := h _
/-- an argument list (no star), from the left -/
def PA (X : Cx) (es : List Expr) (t : TA) : Prop :=
  ∀ (pos : Pos) (pins : List (Addr × Obj)) (s : Shared) (σ : St) (H : Hp) (Q : List V → Hp → Prop), Inv X pins σ H s → t σ H Q → wpAny (model X.prog X.w) X.A (spliced (backTo pos (starEach es X.env))) (AP X pins σ Q) X.xe s
def PS (X : Cx) (st : Stmt) (t : TS) : Prop :=
  ∀ (pins : List (Addr × Obj)) (s : Shared) (σ : St) (H : Hp) (D : Ends), Inv X pins σ H s → t D σ H → wpAny (model X.prog X.w) X.A (exec st X.env) (SP X pins D) X.xe s
def PSs (X : Cx) (st : List Stmt) (t : TS) : Prop :=
  ∀ (pins : List (Addr × Obj)) (s : Shared) (σ : St) (H : Hp) (D : Ends), Inv X pins σ H s → t D σ H → wpAny (model X.prog X.w) X.A (execs st X.env) (SP X pins D) X.xe s
/-- weaken the end -/
theorem thn {α : Type} {t : Sem α} {Q Q' : α → Shared → Prop} {M : Model} {A : Around} {E : Value → Shared → Prop} {s : Shared} (h : wpAny M A t Q E s) (hQ : ∀ a s, Q a s → Q' a s) : wpAny M A t Q' E s := wpAny_mono h hQ fun _ _ x => x
end L2

namespace L2
open PySem PySem.Spec PyProof.Rows
section
variable {X : Cx}

/-- two expressions in a row -/
theorem bin {a b : Expr} {ta tb : TE} (ha : PE X a ta) (hb : PE X b tb) {pins : List (Addr × Obj)} {s : Shared} {σ : St} {H : Hp} {R : V → V → Hp → Prop} (I : Inv X pins σ H s) (h : ta σ H fun x H1 => tb σ H1 fun y H2 => R x y H2)
    {α : Type} {Q : α → Shared → Prop} {f : Value → Value → Sem α}
    (hf : ∀ v u s2 x y H2, Inv X pins σ H2 s2 → RelV x v → RelV y u → R x y H2 → wpAny (model X.prog X.w) X.A (f v u) Q X.xe s2) :
    wpAny (model X.prog X.w) X.A (eval a X.env) (fun v s₁ => wpAny (model X.prog X.w) X.A (eval b X.env) (fun u s₂ => wpAny (model X.prog X.w) X.A (f v u) Q X.xe s₂) X.xe s₁) X.xe s := by
  refine thn (ha pins s σ H _ I h) fun v s1 ⟨x, H1, I1, r1, q1⟩ => ?_
  refine thn (hb pins s1 σ H1 _ I1 q1) fun u s2 ⟨y, H2, I2, r2, q2⟩ => ?_
  exact hf v u s2 x y H2 I2 r1 r2 q2

/-! ### names and constants -/
def tVar (i : Nat) : TE := fun σ H Q => ∃ v, σ[i]? = some (some v) ∧ Q v H
def tC (v : V) : TE := fun _ H Q => Q v H
theorem pe_var {i : Nat} {x : Str} {pos : Pos} (hN : X.N[i]? = some x) (hv : Vis X.env.scope x) (hd : (x == ("__debug__" : Str)) = false := by decide) (hcd : (x == ("__classdict__" : Str)) = false := by decide) : PE X (.Name x pos) (tVar i) := by
  intro pins s σ H Q I h
  obtain ⟨v, e, h⟩ := h
  obtain ⟨m, hn, hl⟩ := I.loc
  obtain ⟨u, r, l⟩ := hl i x v hN e hv
  have fin : EP X pins σ Q u s := ⟨v, H, I, r, h⟩
  rcases l with ⟨hk, hm⟩ | ⟨hk, c, hc, hcell⟩
  · exact wpAny_Name (wpAny_loadName_local I.ok.kind hk hn hm fin) hd
  · rcases hk with hk | hk
    · exact wpAny_Name (wpAny_loadName_cell I.ok.kind hk hc hcell fin) hd
    · exact wpAny_Name (wpAny_loadName_free I.ok.kind hk hc hcell fin hcd) hd
theorem pe_int {i j pos} : PE X (.Constant (.int i) j pos) (tC (.int i)) := fun _ _ _ H _ I h => wpAny_Constant_int ⟨.int i, H, I.tok _, ⟨_, rfl⟩, h⟩
theorem pe_bl {b j pos} : PE X (.Constant (.bool b) j pos) (tC (.bl b)) := fun _ _ _ H _ I h => Constant_bool ⟨.bl b, H, I, rfl, h⟩
theorem pe_non {j pos} : PE X (.Constant .none j pos) (tC .non) := fun _ _ _ H _ I h => Constant_none ⟨.non, H, I, rfl, h⟩
theorem pe_str {x j pos} : PE X (.Constant (.str x) j pos) (tC (.str x)) := fun _ _ _ H _ I h => Calls.Constant_str ⟨.str x, H, I.tok _, ⟨_, rfl⟩, h⟩

/-- a global name of the def -/
def Gl (X : Cx) (x : Str) : Prop := X.env.kindOf x = some .globalImplicit
theorem ld_glob {E : Value → Shared → Prop} {pins : List (Addr × Obj)} {s : Shared} {σ : St} {H : Hp} {x : Str} {u : Value} {pos : Pos} {Q : Value → Shared → Prop} (I : Inv X pins σ H s) (hg : Gl X x) (hm : X.mg x = some u) (h : Q u s)
    (hd : (x == ("__debug__" : Str)) = false := by decide) : wpAny (model X.prog X.w) X.A (eval (.Name x pos) X.env) Q E s :=
  Calls.Name_function_global I.ok.kind hg (Calls.loadGlobal_global (by rw [I.ok.glob]; exact I.mod.glob.keeps I.bk) hm h) hd
theorem ld_blt {E : Value → Shared → Prop} {pins : List (Addr × Obj)} {s : Shared} {σ : St} {H : Hp} {x : Str} {u : Value} {pos : Pos} {Q : Value → Shared → Prop} (I : Inv X pins σ H s) (hg : Gl X x) (hm : X.mg x = none) (hv : bootBuiltins x = some u) (h : Q u s)
    (hn : x ≠ "__name__" := by decide) (hd : (x == ("__debug__" : Str)) = false := by decide) : wpAny (model X.prog X.w) X.A (eval (.Name x pos) X.env) Q E s := by
  obtain ⟨mb, h1, h2⟩ := I.mod.blt
  exact Calls.Name_function_global I.ok.kind hg (Calls.loadGlobal_builtin (by rw [I.ok.glob]; exact I.mod.glob.keeps I.bk) hm (by rw [I.ok.blt]; exact h1.keeps I.bk) ((h2 x hn).trans hv) h) hd
/-- a module's constant, a class, a function, as a value -/
theorem pe_glob {x : Str} {v : V} {u : Value} {pos : Pos} (hg : Gl X x) (hm : X.mg x = some u) (r : RelV v u) (hd : (x == ("__debug__" : Str)) = false := by decide) : PE X (.Name x pos) (tC v) :=
  fun _ _ _ H _ I h => ld_glob I hg hm ⟨v, H, I, r, h⟩ hd
theorem pe_bltn {x : Str} {v : V} {u : Value} {pos : Pos} (hg : Gl X x) (hm : X.mg x = none) (hv : bootBuiltins x = some u) (r : RelV v u) (hn : x ≠ "__name__" := by decide) (hd : (x == ("__debug__" : Str)) = false := by decide) : PE X (.Name x pos) (tC v) :=
  fun _ _ _ H _ I h => ld_blt I hg hm hv ⟨v, H, I, r, h⟩ hn hd

/-! ### arithmetic -/
/-- two ints -/
def t2I (ta tb : TE) (k : Int → Int → Hp → Prop) : St → Hp → Prop := fun σ H => ta σ H fun x H1 => tb σ H1 fun y H2 => ∃ i j, x = .int i ∧ y = .int j ∧ k i j H2
def tAdd (ta tb : TE) : TE := fun σ H Q => t2I ta tb (fun i j H2 => Q (.int (i + j)) H2) σ H
def tSub (ta tb : TE) : TE := fun σ H Q => t2I ta tb (fun i j H2 => Q (.int (i - j)) H2) σ H
/-- the left factor below 2^64 -/
def tMul (ta tb : TE) : TE := fun σ H Q => t2I ta tb (fun i j H2 => (-(2 ^ 64) < i ∧ i < 2 ^ 64) ∧ Q (.int (i * j)) H2) σ H
variable {a b : Expr} {ta tb : TE} {pos : Pos}
theorem pe_add (ha : PE X a ta) (hb : PE X b tb) : PE X (.BinOp a .Add b pos) (tAdd ta tb) := by
  intro pins s σ H Q I h
  refine wpAny_BinOp (bin ha hb I h fun v u s2 x y H2 I2 rx ry q => ?_)
  obtain ⟨i, j, rfl, rfl, q⟩ := q
  obtain ⟨t, rfl⟩ := rx
  obtain ⟨t', rfl⟩ := ry
  exact add_int ⟨.int _, H2, I2.tok _, ⟨_, rfl⟩, q⟩
theorem pe_sub (ha : PE X a ta) (hb : PE X b tb) : PE X (.BinOp a .Sub b pos) (tSub ta tb) := by
  intro pins s σ H Q I h
  refine wpAny_BinOp (bin ha hb I h fun v u s2 x y H2 I2 rx ry q => ?_)
  obtain ⟨i, j, rfl, rfl, q⟩ := q
  obtain ⟨t, rfl⟩ := rx
  obtain ⟨t', rfl⟩ := ry
  exact sub_int ⟨.int _, H2, I2.tok _, ⟨_, rfl⟩, q⟩
theorem pe_mul (ha : PE X a ta) (hb : PE X b tb) : PE X (.BinOp a .Mult b pos) (tMul ta tb) := by
  intro pins s σ H Q I h
  refine wpAny_BinOp (bin ha hb I h fun v u s2 x y H2 I2 rx ry q => ?_)
  obtain ⟨i, j, rfl, rfl, ⟨q1, q2⟩, q⟩ := q
  obtain ⟨t, rfl⟩ := rx
  obtain ⟨t', rfl⟩ := ry
  exact mul_int ⟨.int _, H2, I2.tok _, ⟨_, rfl⟩, q⟩ (.of_left (intBits_le_64 q1 q2))

/-! ### comparisons -/
def PC (X : Cx) (op : CmpOp) (a b : Expr) (t : TE) : Prop :=
  ∀ (pins : List (Addr × Obj)) (s : Shared) (σ : St) (H : Hp) (Q : VK), Inv X pins σ H s → t σ H Q →
    wpAny (model X.prog X.w) X.A (eval a X.env) (fun v s₁ => wpAny (model X.prog X.w) X.A (eval b X.env) (fun u s₂ => wpAny (model X.prog X.w) X.A (compareOp op v u) (EP X pins σ Q) X.xe s₂) X.xe s₁) X.xe s
theorem nobehind (b : Expr) {op : CmpOp} (h : op ≠ .In) (h2 : op ≠ .NotIn) : behindInMarks op b = false := by
  have e1 : (op == CmpOp.In) = false := by cases op <;> first | rfl | exact absurd rfl h
  have e2 : (op == CmpOp.NotIn) = false := by cases op <;> first | rfl | exact absurd rfl h2
  cases b <;> simp [behindInMarks, e1, e2]
def tCmp (p : Int → Int → Bool) (ta tb : TE) : TE := fun σ H Q => t2I ta tb (fun i j H2 => Q (.bl (p i j)) H2) σ H
abbrev tLt : TE → TE → TE := tCmp fun i j => decide (i < j)
abbrev tLe : TE → TE → TE := tCmp fun i j => decide (i ≤ j)
abbrev tGt : TE → TE → TE := tCmp fun i j => decide (j < i)
abbrev tGe : TE → TE → TE := tCmp fun i j => decide (j ≤ i)
abbrev tEqI : TE → TE → TE := tCmp fun i j => decide (i = j)
abbrev tNeI : TE → TE → TE := tCmp fun i j => !decide (i = j)
/-- a comparison of two ints, by its rule -/
theorem pc_int {op : CmpOp} {p : Int → Int → Bool} (ha : PE X a ta) (hb : PE X b tb)
    (rule : ∀ (i j : Int) (t u : Tok) (Q : Value → Shared → Prop) (s : Shared), Q (.bool (p i j)) s → wpAny (model X.prog X.w) X.A (compareOp op (.int i t) (.int j u)) Q X.xe s) : PC X op a b (tCmp p ta tb) := by
  intro pins s σ H Q I h
  refine bin ha hb I h fun v u s2 x y H2 I2 rx ry q => ?_
  obtain ⟨i, j, rfl, rfl, q⟩ := q
  obtain ⟨t, rfl⟩ := rx
  obtain ⟨t', rfl⟩ := ry
  exact rule i j t t' _ s2 ⟨.bl _, H2, I2, rfl, q⟩
theorem pc_lt (ha : PE X a ta) (hb : PE X b tb) : PC X .Lt a b (tLt ta tb) := pc_int ha hb fun _ _ _ _ _ _ h => lt_int h
theorem pc_le (ha : PE X a ta) (hb : PE X b tb) : PC X .LtE a b (tLe ta tb) := pc_int ha hb fun _ _ _ _ _ _ h => le_int h
theorem pc_gt (ha : PE X a ta) (hb : PE X b tb) : PC X .Gt a b (tGt ta tb) := pc_int ha hb fun _ _ _ _ _ _ h => gt_int h
theorem pc_ge (ha : PE X a ta) (hb : PE X b tb) : PC X .GtE a b (tGe ta tb) := pc_int ha hb fun _ _ _ _ _ _ h => ge_int h
theorem pc_eqI (ha : PE X a ta) (hb : PE X b tb) : PC X .Eq a b (tEqI ta tb) := pc_int ha hb fun _ _ _ _ _ _ h => eq_int (by rw [Bool.beq_eq_decide_eq]; exact h)
theorem pc_neI (ha : PE X a ta) (hb : PE X b tb) : PC X .NotEq a b (tNeI ta tb) := pc_int ha hb fun _ _ _ _ _ _ h => ne_int (by rw [bne, Bool.beq_eq_decide_eq]; exact h)
/-- is None -/
def tIsN (ta : TE) : TE := fun σ H Q => ta σ H fun x H1 => Q (.bl (decide (x = .non))) H1
def tNotN (ta : TE) : TE := fun σ H Q => ta σ H fun x H1 => Q (.bl (!decide (x = .non))) H1
theorem RelV.none_iff {x : V} {v : Value} (r : RelV x v) : (v == Value.none) = decide (x = .non) := by
  cases x with
  | non => cases r; rfl
  | bl _ => cases r; rfl
  | int _ => obtain ⟨t, rfl⟩ := r; rfl
  | str _ => obtain ⟨t, rfl⟩ := r; rfl
  | byt _ => obtain ⟨t, rfl⟩ := r; rfl
  | flt _ => obtain ⟨t, rfl⟩ := r; rfl
  | ref _ => cases r; rfl
  | ty _ => cases r; rfl
theorem pc_isN {j pos'} (ha : PE X a ta) : PC X .Is a (.Constant .none j pos') (tIsN ta) := by
  intro pins s σ H Q I h
  refine thn (ha pins s σ H _ I h) fun v s1 ⟨x, H1, I1, r1, q1⟩ => ?_
  exact Constant_none (is_none_gen ⟨.bl _, H1, I1, by rw [r1.none_iff]; rfl, q1⟩)
theorem pc_notN {j pos'} (ha : PE X a ta) : PC X .IsNot a (.Constant .none j pos') (tNotN ta) := by
  intro pins s σ H Q I h
  refine thn (ha pins s σ H _ I h) fun v s1 ⟨x, H1, I1, r1, q1⟩ => ?_
  exact Constant_none (isnot_none_gen ⟨.bl _, H1, I1, by rw [r1.none_iff]; rfl, q1⟩)
/-- a comparison as a value, as a test -/
def tB (t : TE) : TT := fun σ H Q => t σ H fun x H1 => ∃ c, x = .bl c ∧ Q c H1
theorem pe_cmp {op : CmpOp} {t : TE} (h : PC X op a b t) (h1 : behindInMarks op b = false := by first | exact nobehind _ (by decide) (by decide) | rfl) : PE X (.Compare a [op] [b] pos) t := fun pins s σ H Q I hw => wpAny_Compare1 (h pins s σ H Q I hw) h1
theorem pt_cmp {op : CmpOp} {t : TE} (h : PC X op a b t) (h1 : behindInMarks op b = false := by first | exact nobehind _ (by decide) (by decide) | rfl) : PT X (.Compare a [op] [b] pos) (tB t) := by
  intro pins s σ H Q I hw
  refine wpAny_isTrue_Compare1 (thn (h pins s σ H _ I hw) fun v s1 h1 => thn h1 fun u s2 h2 => thn h2 fun c s3 ⟨x, H1, I1, r1, q1⟩ => ?_) h1
  obtain ⟨d, rfl, q⟩ := q1
  cases r1
  exact wpAny_truthy_bool ⟨H1, I1, q⟩
/-- an expression whose value is a bool, as a test -/
theorem pt_val {e : Expr} {t : TE} (h : PE X e t) (he : ∀ whole, isTrue e X.env whole = (do let v ← whole; standAt e.pos; holding [v] (truthy v)) := by intro _; rfl) : PT X e (tB t) := by
  intro pins s σ H Q I hw
  refine isTrue_plain (thn (h pins s σ H _ I hw) fun v s1 ⟨x, H1, I1, r1, q1⟩ => ?_) (he _)
  obtain ⟨d, rfl, q⟩ := q1
  cases r1
  exact wpAny_truthy_bool ⟨H1, I1, q⟩

/-! ### and, or, not -/
variable {tA tB' : TT} {rest : List Expr}
def tAnd (t u : TT) : TT := fun σ H Q => t σ H fun c H1 => if c = true then u σ H1 Q else Q false H1
def tOr (t u : TT) : TT := fun σ H Q => t σ H fun c H1 => if c = true then Q true H1 else u σ H1 Q
def tNot (t : TT) : TT := fun σ H Q => t σ H fun c H1 => Q (!c) H1
theorem pw_and1 (ha : PT X a tA) : PW X (.BoolOp .And [a] pos) tA := by
  intro wh pins s σ H Q I h
  refine isTrue_and (thn (ha pins s σ H Q I h) fun c s1 e => ?_)
  cases c with
  | true => exact isTrue_and_nil e
  | false => exact e
theorem pw_or1 (ha : PT X a tA) : PW X (.BoolOp .Or [a] pos) tA := by
  intro wh pins s σ H Q I h
  refine isTrue_or (thn (ha pins s σ H Q I h) fun c s1 e => ?_)
  cases c with
  | false => exact isTrue_or_nil e
  | true => exact e
theorem pw_and (ha : PT X a tA) (hb : PW X (.BoolOp .And (b :: rest) pos) tB') : PW X (.BoolOp .And (a :: b :: rest) pos) (tAnd tA tB') := by
  intro wh pins s σ H Q I h
  refine isTrue_and (thn (ha pins s σ H _ I h) fun c s1 ⟨H1, I1, q1⟩ => ?_)
  cases c with
  | true => exact hb wh pins s1 σ H1 Q I1 q1
  | false => exact ⟨H1, I1, q1⟩
theorem pw_or (ha : PT X a tA) (hb : PW X (.BoolOp .Or (b :: rest) pos) tB') : PW X (.BoolOp .Or (a :: b :: rest) pos) (tOr tA tB') := by
  intro wh pins s σ H Q I h
  refine isTrue_or (thn (ha pins s σ H _ I h) fun c s1 ⟨H1, I1, q1⟩ => ?_)
  cases c with
  | true => exact ⟨H1, I1, q1⟩
  | false => exact hb wh pins s1 σ H1 Q I1 q1
theorem pt_not (ha : PT X a tA) : PT X (.UnaryOp .Not a pos) (tNot tA) := by
  intro pins s σ H Q I h
  exact isTrue_not (ha pins s σ H (fun c H1 => Q (!c) H1) I h)
/-- .. as values (bools) -/
def tAndV (ta tb : TE) : TE := fun σ H Q => ta σ H fun x H1 => ∃ c, x = .bl c ∧ if c = true then tb σ H1 Q else Q (.bl false) H1
def tOrV (ta tb : TE) : TE := fun σ H Q => ta σ H fun x H1 => ∃ c, x = .bl c ∧ if c = true then Q (.bl true) H1 else tb σ H1 Q
def tNotV (ta : TE) : TE := fun σ H Q => ta σ H fun x H1 => ∃ c, x = .bl c ∧ Q (.bl (!c)) H1
theorem pe_one {op} {t : TE} (h : PE X a t) : PE X (.BoolOp op [a] pos) t := fun pins s σ H Q I hw => BoolOp_one (h pins s σ H Q I hw)
theorem pe_and (ha : PE X a ta) (hb : PE X (.BoolOp .And (b :: rest) pos) tb) : PE X (.BoolOp .And (a :: b :: rest) pos) (tAndV ta tb) := by
  intro pins s σ H Q I h
  refine BoolOp_and (thn (ha pins s σ H _ I h) fun v s1 ⟨x, H1, I1, r1, q1⟩ => ?_)
  obtain ⟨c, rfl, q1⟩ := q1
  cases r1
  refine wpAny_truthy_bool ?_
  cases c with
  | true => exact hb pins s1 σ H1 Q I1 q1
  | false => exact ⟨.bl false, H1, I1, rfl, q1⟩
theorem pe_or (ha : PE X a ta) (hb : PE X (.BoolOp .Or (b :: rest) pos) tb) : PE X (.BoolOp .Or (a :: b :: rest) pos) (tOrV ta tb) := by
  intro pins s σ H Q I h
  refine BoolOp_or (thn (ha pins s σ H _ I h) fun v s1 ⟨x, H1, I1, r1, q1⟩ => ?_)
  obtain ⟨c, rfl, q1⟩ := q1
  cases r1
  refine wpAny_truthy_bool ?_
  cases c with
  | false => exact hb pins s1 σ H1 Q I1 q1
  | true => exact ⟨.bl true, H1, I1, rfl, q1⟩
theorem pe_not (ha : PE X a ta) : PE X (.UnaryOp .Not a pos) (tNotV ta) := by
  intro pins s σ H Q I h
  refine UnaryOp_ (thn (ha pins s σ H _ I h) fun v s1 ⟨x, H1, I1, r1, q1⟩ => ?_)
  obtain ⟨c, rfl, q1⟩ := q1
  cases r1
  exact not_of (wpAny_truthy_bool ⟨.bl (!c), H1, I1, rfl, q1⟩)
/-- a if t else b -/
def tIf (t : TT) (ta tb : TE) : TE := fun σ H Q => t σ H fun c H1 => if c = true then ta σ H1 Q else tb σ H1 Q
theorem pe_ifExp {c : Expr} (hc : PT X c tA) (ha : PE X a ta) (hb : PE X b tb) : PE X (.IfExp c a b pos) (tIf tA ta tb) := by
  intro pins s σ H Q I h
  refine wpAny_IfExp (thn (hc pins s σ H _ I h) fun d s1 ⟨H1, I1, q1⟩ => ?_)
  cases d with
  | true => exact ha pins s1 σ H1 Q I1 q1
  | false => exact hb pins s1 σ H1 Q I1 q1
end
end L2

namespace L2
open PySem PySem.Spec PyProof.Rows

/-! ### a list, a tuple that is read: tracked, frozen, or an object of the module -/
def SqL (K : PySem.W.Frag) (H : Hp) (a : Addr) (xs : List V) : Prop :=
  Rd H a (.lst xs) ∨
    ∃ (o : Obj) (its : Array Value) (n : Nat), K.lookup a = some o ∧ o.cls = .type "list" ∧ o.dict = none ∧ o.data = .seq its n ∧ its.size ≤ sizeLine ∧ Vals xs its.toList
def SqT (K : PySem.W.Frag) (H : Hp) (a : Addr) (xs : List V) : Prop :=
  Rd H a (.tup xs) ∨
    ∃ (o : Obj) (its : Array Value) (n : Nat), K.lookup a = some o ∧ o.cls = .type "tuple" ∧ o.data = .seq its n ∧ its.size ≤ sizeLine ∧ Vals xs its.toList
def absV : Value → Option V
  | .none => some .non
  | .bool b => some (.bl b)
  | .int i _ => some (.int i)
  | .str x _ => some (.str x)
  | .bytes b _ => some (.byt b)
  | .float b _ => some (.flt b)
  | .ref a => some (.ref a)
  | .type n => some (.ty n)
  | _ => none
theorem RelV.abs {x : V} {u : Value} (r : RelV x u) : absV u = some x := by
  cases x with
  | non => cases r; rfl
  | bl _ => cases r; rfl
  | int _ => obtain ⟨t, rfl⟩ := r; rfl
  | str _ => obtain ⟨t, rfl⟩ := r; rfl
  | byt _ => obtain ⟨t, rfl⟩ := r; rfl
  | flt _ => obtain ⟨t, rfl⟩ := r; rfl
  | ref _ => cases r; rfl
  | ty _ => cases r; rfl
theorem RelV.inj {x y : V} {u : Value} (r : RelV x u) (q : RelV y u) : x = y := Option.some.inj (r.abs.symm.trans q.abs)
theorem Vals.inj : ∀ {xs ys : List V} {us : List Value}, Vals xs us → Vals ys us → xs = ys
  | _, _, _, .nil, .nil => rfl
  | _, _, _, .cons r t, .cons r' t' => by rw [r.inj r', Vals.inj t t']
section
variable {X : Cx} {pins : List (Addr × Obj)} {σ : St} {H : Hp} {s : Shared} {a : Addr} {xs ys : List V}
theorem SqL.of {K : PySem.W.Frag} (h : H a = some (.lst xs)) : SqL K H a xs := .inl (.inl h)
theorem SqT.of {K : PySem.W.Frag} (h : H a = some (.tup xs)) : SqT K H a xs := .inl (.inl h)
theorem Inv.list (I : Inv X pins σ H s) (h : SqL X.K H a xs) : ∃ its : List Value, Vals xs its ∧ PlainL s.heap a its.toArray ∧ xs.length ≤ sizeLine := by
  rcases h with h | ⟨o, its, n, hk, hc, hd, hs, hz, r⟩
  · obtain ⟨z, its, n, r, e⟩ := h.ok I.hok
    exact ⟨its, r, ⟨_, n, e, rfl, rfl, rfl⟩, z⟩
  · refine ⟨its.toList, r, ⟨o, n, I.kIn a o hk, hc, hd, by simpa using hs⟩, ?_⟩
    have e := r.length
    simp only [Array.length_toList] at e
    omega
theorem Inv.tuple (I : Inv X pins σ H s) (h : SqT X.K H a xs) : ∃ its : List Value, Vals xs its ∧ IsTup s.heap a its.toArray ∧ xs.length ≤ sizeLine := by
  rcases h with h | ⟨o, its, n, hk, hc, hs, hz, r⟩
  · obtain ⟨z, its, r, p⟩ := h.ok I.hok
    exact ⟨its, r, p, z⟩
  · refine ⟨its.toList, r, ⟨o, I.kIn a o hk, hc, n, by simpa using hs⟩, ?_⟩
    have e := r.length
    simp only [Array.length_toList] at e
    omega
theorem Inv.list_inj (I : Inv X pins σ H s) (h : SqL X.K H a xs) (h' : SqL X.K H a ys) : xs = ys := by
  obtain ⟨its, r, ⟨o, n, e, _, _, d⟩, _⟩ := I.list h
  obtain ⟨its', r', ⟨o', n', e', _, _, d'⟩, _⟩ := I.list h'
  rw [e] at e'; cases e'
  rw [d] at d'
  injection d' with d1 _
  have : its = its' := by simpa using congrArg Array.toList d1
  subst this
  exact r.inj r'
theorem Inv.tuple_inj (I : Inv X pins σ H s) (h : SqT X.K H a xs) (h' : SqT X.K H a ys) : xs = ys := by
  obtain ⟨its, r, ⟨o, e, _, n, d⟩, _⟩ := I.tuple h
  obtain ⟨its', r', ⟨o', e', _, n', d'⟩, _⟩ := I.tuple h'
  rw [e] at e'; cases e'
  rw [d] at d'
  injection d' with d1 _
  have : its = its' := by simpa using congrArg Array.toList d1
  subst this
  exact r.inj r'
end

/-! ### another wish about exceptions -/
abbrev Cx.wish (X : Cx) (E : Value → Shared → Prop) : Cx := { X with xe := E }
/-- no exception leaves -/
abbrev Cx.nox (X : Cx) : Cx := X.wish fun _ _ => False
theorem Cx.Ok.wish {X : Cx} (ok : X.Ok) (E : Value → Shared → Prop) : (X.wish E).Ok :=
  ⟨ok.mod, ok.kind, ok.glob, ok.blt, ok.above, ok.inj, ok.has, ok.cab, ok.hd, ok.frames, ok.stk, ok.exf, ok.bs, ok.bsz, ok.noex, ok.exfs, ok.funs, ok.frf⟩
theorem Cx.Ok.unwish {X : Cx} {E : Value → Shared → Prop} (ok : (X.wish E).Ok) : X.Ok :=
  ⟨ok.mod, ok.kind, ok.glob, ok.blt, ok.above, ok.inj, ok.has, ok.cab, ok.hd, ok.frames, ok.stk, ok.exf, ok.bs, ok.bsz, ok.noex, ok.exfs, ok.funs, ok.frf⟩
section
variable {X : Cx} {pins : List (Addr × Obj)} {σ : St} {H : Hp} {s : Shared} {E : Value → Shared → Prop}
theorem Inv.wish (I : Inv X pins σ H s) (E : Value → Shared → Prop) : Inv (X.wish E) pins σ H s := ⟨I.ok.wish E, I.os, I.bare, I.base, I.loc, I.cell, I.free, I.freeC, I.pin, I.hok, I.len⟩
theorem Inv.unwish (I : Inv (X.wish E) pins σ H s) : Inv X pins σ H s := ⟨I.ok.unwish, I.os, I.bare, I.base, I.loc, I.cell, I.free, I.freeC, I.pin, I.hok, I.len⟩
theorem SP.unwish {D : Ends} {f : Flow} {s' : Shared} (h : SP (X.wish E) pins D f s') : SP X pins D f s' := by
  cases f with
  | next => obtain ⟨σ', H', I, q⟩ := h; exact ⟨σ', H', I.unwish, q⟩
  | brk => obtain ⟨σ', H', I, q⟩ := h; exact ⟨σ', H', I.unwish, q⟩
  | cont => obtain ⟨σ', H', I, q⟩ := h; exact ⟨σ', H', I.unwish, q⟩
  | ret u => obtain ⟨v, σ', H', I, r, q⟩ := h; exact ⟨v, σ', H', I.unwish, r, q⟩
theorem PE.nox {e : Expr} {t : TE} (h : PE X.nox e t) : PE X e t := fun pins s σ H Q I hw =>
  wpAny_mono (h pins s σ H Q (I.wish _) hw) (fun _ _ ⟨v, H', I', r, q⟩ => ⟨v, H', I'.unwish, r, q⟩) fun _ _ z => False.elim z
theorem PT.nox {e : Expr} {t : TT} (h : PT X.nox e t) : PT X e t := fun pins s σ H Q I hw =>
  wpAny_mono (h pins s σ H Q (I.wish _) hw) (fun _ _ ⟨H', I', q⟩ => ⟨H', I'.unwish, q⟩) fun _ _ z => False.elim z
theorem PSs.nox {st : List Stmt} {t : TS} (h : PSs X.nox st t) : PSs X st t := fun pins s σ H D I hw =>
  wpAny_mono (h pins s σ H D (I.wish _) hw) (fun _ _ q => q.unwish) fun _ _ z => False.elim z
end

/-! ### blocks and small statements -/
section
variable {X : Cx} {st : Stmt} {rest : List Stmt} {t u : TS} {e : Expr} {te : TE} {pos : Pos}
def tNext : TS := fun D σ H => D.nx σ H
def tSeq (t u : TS) : TS := fun D σ H => t { D with nx := u D } σ H
theorem pss_nil : PSs X [] tNext := fun _ _ σ H _ I h => wpAny_execs_nil ⟨σ, H, I, h⟩
theorem pss_cons (h1 : PS X st t) (h2 : PSs X rest u) : PSs X (st :: rest) (tSeq t u) := by
  intro pins s σ H D I h
  refine wpAny_execs_cons (thn (h1 pins s σ H { D with nx := u D } I h) fun f s1 q => ?_)
  cases f with
  | next =>
    obtain ⟨σ', H', I', q⟩ := q
    exact h2 pins s1 σ' H' D I' q
  | ret v => exact q
  | brk => exact q
  | cont => exact q
theorem pss_one (h1 : PS X st t) : PSs X [st] t := by
  intro pins s σ H D I h
  refine wpAny_execs_cons (thn (h1 pins s σ H D I h) fun f s1 q => ?_)
  cases f with
  | next => exact wpAny_execs_nil q
  | ret v => exact q
  | brk => exact q
  | cont => exact q
def tBreak : TS := fun D σ H => D.bk σ H
def tCont : TS := fun D σ H => D.ct σ H
theorem ps_pass : PS X (.Pass pos) tNext := fun _ _ σ H _ I h => wpAny_Pass ⟨σ, H, I, h⟩
theorem ps_break : PS X (.Break pos) tBreak := fun _ _ σ H _ I h => wpAny_Break ⟨σ, H, I, h⟩
theorem ps_continue : PS X (.Continue pos) tCont := fun _ _ σ H _ I h => wpAny_Continue ⟨σ, H, I, h⟩
/-- in a def's body nothing is shown -/
theorem Inv.quiet {pins : List (Addr × Obj)} {σ : St} {H : Hp} {s : Shared} (I : Inv X pins σ H s) : interactive X.env = false := by simp [interactive, I.ok.kind]
/-- a docstring -/
theorem ps_doc {x j pos pos'} : PS X (.Expr (.Constant (.str x) j pos) pos') tNext := fun _ s σ H _ I h => wpAny_Expr (Calls.Constant_str (show SP X _ _ .next { s with toks := s.toks + 1 } from ⟨σ, H, I.tok _, h⟩)) I.quiet
/-- an expression whose value is dropped -/
def tDrop (te : TE) : TS := fun D σ H => te σ H fun _ H1 => D.nx σ H1
theorem ps_expr (he : PE X e te) (hs : swapsWith e none pos.line X.env = pure false := by rfl) : PS X (.Expr e pos) (tDrop te) := by
  intro pins s σ H D I h
  exact wpAny_Expr_any (thn (he pins s σ H _ I h) fun v s1 ⟨x, H1, I1, r1, q1⟩ => ⟨σ, H1, I1, q1⟩) I.quiet hs
def tRet (te : TE) : TS := fun D σ H => te σ H D.rt
theorem ps_ret (he : PE X e te) : PS X (.Return (some e) pos) (tRet te) := by
  intro pins s σ H D I h
  exact wpAny_Return_some (thn (he pins s σ H _ I h) fun v s1 ⟨x, H1, I1, r1, q1⟩ => ⟨x, σ, H1, I1, r1, q1⟩)
def tRetN : TS := fun D _ H => D.rt .non H
theorem ps_retN : PS X (.Return none pos) tRetN := fun _ _ σ H _ I h => wpAny_Return_none ⟨.non, σ, H, I, rfl, h⟩
def tIfS (c : TT) (t u : TS) : TS := fun D σ H => c σ H fun b H1 => if b = true then t D σ H1 else u D σ H1
theorem ps_if {c : Expr} {a b : List Stmt} {tc : TT} (hc : PT X c tc) (ha : PSs X a t) (hb : PSs X b u) : PS X (.If c a b pos) (tIfS tc t u) := by
  intro pins s σ H D I h
  refine wpAny_If (thn (hc pins s σ H _ I h) fun d s1 ⟨H1, I1, q1⟩ => ?_)
  cases d with
  | true => exact ha pins s1 σ H1 D I1 q1
  | false => exact hb pins s1 σ H1 D I1 q1
/-- code that the proof never comes to -/
def tNever : TS := fun _ _ _ => False
theorem ps_never : PS X st tNever := fun _ _ _ _ _ _ h => h.elim
theorem pss_never {sts : List Stmt} : PSs X sts tNever := fun _ _ _ _ _ _ h => h.elim
end

/-! ### targets -/
abbrev TG := V → St → Hp → (St → Hp → Prop) → Prop
abbrev TGs := List V → St → Hp → (St → Hp → Prop) → Prop
def PG (X : Cx) (target : Expr) (t : TG) : Prop :=
  ∀ (pins : List (Addr × Obj)) (s : Shared) (σ : St) (H : Hp) (v : V) (u : Value) (Q : St → Hp → Prop), Inv X pins σ H s → RelV v u → t v σ H Q →
    wpAny (model X.prog X.w) X.A (assign target X.env u) (fun _ s' => ∃ σ' H', Inv X pins σ' H' s' ∧ Q σ' H') X.xe s
/-- several targets, one after another -/
def PGs (X : Cx) (ts : List Expr) (t : TGs) : Prop :=
  ∀ (pins : List (Addr × Obj)) (s : Shared) (σ : St) (H : Hp) (vs : List V) (us : List Value) (Q : St → Hp → Prop), Inv X pins σ H s → Vals vs us → t vs σ H Q →
    wpAny (model X.prog X.w) X.A (assignInOrder ((assignEach ts X.env).map (·.2)) us) (fun _ s' => ∃ σ' H', Inv X pins σ' H' s' ∧ Q σ' H') X.xe s
/-- o[i] = v, by values -/
abbrev TSet := V → V → V → Hp → (Hp → Prop) → Prop
def PSet (X : Cx) (t : TSet) : Prop :=
  ∀ (pins : List (Addr × Obj)) (s : Shared) (σ : St) (H : Hp) (o i v : V) (ov iv u : Value) (Q : Hp → Prop), Inv X pins σ H s → RelV o ov → RelV i iv → RelV v u → t o i v H Q →
    wpAny (model X.prog X.w) X.A (setItem ov iv u) (fun _ s' => ∃ H', Inv X pins σ H' s' ∧ Q H') X.xe s
/-- a op= b, by values -/
abbrev TIp := V → V → Hp → VK → Prop
def PIp (X : Cx) (op : Operator) (t : TIp) : Prop :=
  ∀ (pins : List (Addr × Obj)) (s : Shared) (σ : St) (H : Hp) (x y : V) (v u : Value) (Q : VK), Inv X pins σ H s → RelV x v → RelV y u → t x y H Q →
    wpAny (model X.prog X.w) X.A (inplaceOp op v u) (EP X pins σ Q) X.xe s
section
variable {X : Cx} {pos : Pos}
def gName (i : Nat) : TG := fun v σ H Q => Q (σ.set i (some v)) H
theorem pg_name {i : Nat} {x : Str} (hN : X.N.Nodup) (hi : X.N[i]? = some x) (hx : Loc X.env.scope x) (hf : X.fn x = true ∨ X.env.scope.names.lookup x = some .local := by first | exact .inl rfl | exact .inr rfl | assumption) : PG X (.Name x pos) (gName i) := by
  intro pins s σ H v u Q I r h
  exact wpAny_assign_Name (store_ok I hN hi hx r (fun s' I' => ⟨_, H, I', h⟩) hf)
def gNil : TGs := fun vs σ H Q => vs = [] ∧ Q σ H
def gCons (t : TG) (u : TGs) : TGs := fun vs σ H Q => ∃ v r, vs = v :: r ∧ t v σ H fun σ' H' => u r σ' H' Q
theorem pgs_nil : PGs X [] gNil := by
  intro pins s σ H vs us Q I r h
  obtain ⟨e, h⟩ := h
  subst e
  cases r
  exact assignInOrder_nil ⟨σ, H, I, h⟩
theorem pgs_cons {e : Expr} {es : List Expr} {t : TG} {u : TGs} (h1 : PG X e t) (h2 : PGs X es u)
    (hs : (assignEach (e :: es) X.env).map (·.2) = assign e X.env :: (assignEach es X.env).map (·.2) := by rfl) : PGs X (e :: es) (gCons t u) := by
  intro pins s σ H vs us Q I r h
  obtain ⟨v, vr, e1, h⟩ := h
  subst e1
  cases r with
  | cons r rr =>
    rw [hs]
    refine assignInOrder_cons (thn (h1 pins s σ H _ _ _ I r h) fun _ s1 ⟨σ1, H1, I1, q1⟩ => ?_)
    exact h2 pins s1 σ1 H1 _ _ Q I1 rr q1
/-- (a, b, ..) = a tuple of that length -/
def gTup (K : PySem.W.Frag) (n : Nat) (t : TGs) : TG := fun v σ H Q => ∃ a xs, v = .ref a ∧ SqT K H a xs ∧ xs.length = n ∧ t xs σ H Q
theorem pg_tup {es : List Expr} {k : Nat} {t : TGs} {n : Nat} (hc : X.calm = true) (h : PGs X es t)
    (hn : (assignEach es X.env).length = n := by rfl) (hst : (assignEach es X.env).findIdx? (·.1) = none := by rfl) : PG X (.Tuple es k pos) (gTup X.K n t) := by
  intro pins s σ H v u Q I r hw
  obtain ⟨a, xs, e1, hq, hl, hw⟩ := hw
  subst e1
  cases r
  obtain ⟨its, rv, ht, hz⟩ := I.tuple hq
  refine assign_Tuple_tuple (I.ok.hd hc) ht (by simp [hn, ← hl, rv.length]) hst fun h' hx => ?_
  have I1 : Inv X pins σ H { s with heap := h' } := I.kept (t' := s.toks) fun b o e => hx b o (Nat.ne_of_lt (Heap.lt_size e)) e
  exact h pins _ σ H xs _ Q I1 (by simpa using rv) hw
/-- o[i] = .. -/
def gSub (to ti : TE) (t : TSet) : TG := fun v σ H Q => to σ H fun o H1 => ti σ H1 fun i H2 => t o i v H2 fun H3 => Q σ H3
theorem pg_sub {o i : Expr} {to ti : TE} {t : TSet} (ho : PE X o to) (hi : PE X i ti) (hs : PSet X t)
    (ha : ∀ v, assign (.Subscript o i pos) X.env v = (do
      let ov ← holding [v] (eval o X.env)
      let iv ← holding [v, ov] (eval i X.env)
      standAt pos
      holding [v, ov, iv] (setItem ov iv v)
      release [v, ov, iv] []) := by intro _; rfl) : PG X (.Subscript o i pos) (gSub to ti t) := by
  intro pins s σ H v u Q I r h
  rw [ha]
  refine wpAny_bind (wpAny_holding (thn (ho pins s σ H _ I h) fun ov s1 ⟨x, H1, I1, r1, q1⟩ => ?_))
  refine wpAny_bind (wpAny_holding (thn (hi pins s1 σ H1 _ I1 q1) fun iv s2 ⟨y, H2, I2, r2, q2⟩ => ?_))
  refine wpAny_bind (wpAny_standAt (wpAny_bind (wpAny_holding (thn (hs pins s2 σ H2 x y v ov iv u _ I2 r1 r2 r q2) fun _ s3 ⟨H3, I3, q3⟩ => ?_))))
  exact wpAny_release ⟨σ, H3, I3, q3⟩
/-- target = value -/
def tAsg (te : TE) (g : TG) : TS := fun D σ H => te σ H fun x H1 => g x σ H1 D.nx
theorem ps_asg {tg e : Expr} {te : TE} {g : TG} (he : PE X e te) (hg : PG X tg g) (hs : swapsWithSole [tg] e pos.line X.env = pure false := by rfl) (hw : swappedStores [tg] e X.env = pure none := by rfl)
    (h1 : (assignEach [tg] X.env).map (·.2) = [assign tg X.env] := by rfl) : PS X (.Assign [tg] e pos) (tAsg te g) := by
  intro pins s σ H D I h
  refine wpAny_Assign_stores (thn (he pins s σ H _ I h) fun v s1 ⟨x, H1, I1, r1, q1⟩ => ?_) hs hw
  rw [h1]
  exact thn (hg pins s1 σ H1 x v _ I1 r1 q1) fun _ s2 q => q
/-- name = value -/
theorem ps_set {i : Nat} {x : Str} {e : Expr} {te : TE} {pos' : Pos} (hN : X.N.Nodup) (hi : X.N[i]? = some x) (hx : Loc X.env.scope x) (he : PE X e te) (hs : swapsWith e (some (.Name x pos')) pos.line X.env = pure false := by rfl) (hf : X.fn x = true ∨ X.env.scope.names.lookup x = some .local := by first | exact .inl rfl | exact .inr rfl | assumption) :
    PS X (.Assign [.Name x pos'] e pos) (tAsg te (gName i)) := by
  intro pins s σ H D I h
  refine wpAny_Assign_Name (thn (he pins s σ H _ I h) fun v s1 ⟨y, H1, I1, r1, q1⟩ => ?_) hs
  exact store_ok I1 hN hi hx r1 (fun s2 I2 => ⟨_, H1, I2, q1⟩) hf
/-- a, b = x, y with plain local names: stored from the right; the pair itself is not tracked (the opening rows as in PyProof/Rows/TupAssign.lean:23) -/
def tPar (i j : Nat) (ta : TA) : TS := fun D σ H => ta σ H fun vs H1 => ∃ v w, vs = [v, w] ∧ D.nx ((σ.set i (some v)).set j (some w)) H1
theorem ps_par {i j : Nat} {x y : Str} {a b : Expr} {ta : TA} {px py pt : Pos} {kt k2 pt2} (hc : X.calm = true) (hN : X.N.Nodup) (hi : X.N[i]? = some x) (hj : X.N[j]? = some y) (hij : i ≠ j)
    (hx : X.env.scope.names.lookup x = some .local) (hy : X.env.scope.names.lookup y = some .local) (ha : PA X [a, b] ta)
    (hw : swappedStores [.Tuple [.Name x px, .Name y py] kt pt] (.Tuple [a, b] k2 pt2) X.env = pure (some [x, y]))
    (hs : swapsWithSole [.Tuple [.Name x px, .Name y py] kt pt] (.Tuple [a, b] k2 pt2) pos.line X.env = pure false := by rfl) :
    PS X (.Assign [.Tuple [.Name x px, .Name y py] kt pt] (.Tuple [a, b] k2 pt2) pos) (tPar i j ta) := by
  intro pins s σ H D I h
  rw [exec_Assign_arm]
  refine wpAny_bind (wpAny_standAt ?_)
  rw [hs]
  refine wpAny_bind (wpAny_pure ?_)
  rw [if_neg (by decide)]
  refine wpAny_bind (Tuple_ (thn (ha _ pins s σ H _ I h) fun us s1 ⟨vs, H1, I1, r1, q1⟩ => ?_))
  obtain ⟨v, w, e1, q1⟩ := q1
  subst e1
  obtain ⟨u1, u2, rfl, rv, rw'⟩ : ∃ u1 u2, us = [u1, u2] ∧ RelV v u1 ∧ RelV w u2 := by
    cases r1 with
    | cons p q =>
      cases q with
      | cons p' q' =>
        cases q'
        exact ⟨_, _, rfl, p, p'⟩
  refine wpAny_newObj_type ?_ (by show 2 ≤ sizeLine; decide)
  have I2 : Inv X pins σ H1 { s1 with heap := s1.heap.push { cls := .type "tuple", data := .seq [u1, u2].toArray } } := I1.kept (t' := s1.toks) fun b o e => Heap.get?_push_of_some _ e
  rw [hw]
  refine wpAny_bind (wpAny_pure ?_)
  show wpAny (model X.prog X.w) X.A (do rule "assign.swapped-stores"; let items ← unpackItems (.ref s1.heap.objs.size) 2 none; assignInOrder [fun v => bindName X.env y v, fun v => bindName X.env x v] items.reverse; pure Flow.next) _ _ _
  refine wpAny_bind (wpAny_rule (wpAny_bind (unpackItems_tuple (items := #[u1, u2]) (I.ok.hd hc) (IsTup.new s1.heap _) fun h' hx' => ?_)))
  have I3 := I2.kept (h' := h') (t' := s1.toks) fun b o e => hx' b o (Nat.ne_of_lt (Heap.lt_size e)) e
  show wpAny _ _ (assignInOrder [fun v => bindName X.env y v, fun v => bindName X.env x v] [u2, u1] >>= fun _ => pure Flow.next) _ _ _
  refine wpAny_bind (assignInOrder_cons (wpAny_bindName (store_ok I3 hN hj (.inl hy) rw' (fun s2 I4 => ?_) (.inr hy))))
  refine assignInOrder_cons (wpAny_bindName (store_ok I4 hN hi (.inl hx) rv (fun s3 I5 => assignInOrder_nil (wpAny_pure ?_)) (.inr hx)))
  rw [List.set_comm _ _ (Ne.symm hij)] at I5
  exact ⟨_, H1, I5, q1⟩
/-- name op= e -/
def tAug (i : Nat) (te : TE) (ti : TIp) : TS := fun D σ H => ∃ x, σ[i]? = some (some x) ∧ te σ H fun y H1 => ti x y H1 fun z H2 => D.nx (σ.set i (some z)) H2
theorem ps_aug {i : Nat} {x : Str} {e : Expr} {te : TE} {op : Operator} {ti : TIp} {pos' : Pos} (hN : X.N.Nodup) (hi : X.N[i]? = some x) (hx : Loc X.env.scope x) (he : PE X e te) (ho : PIp X op ti) (hf : X.fn x = true ∨ X.env.scope.names.lookup x = some .local := by first | exact .inl rfl | exact .inr rfl | assumption) :
    PS X (.AugAssign (.Name x pos') op e pos) (tAug i te ti) := by
  intro pins s σ H D I h
  obtain ⟨v, e1, h⟩ := h
  obtain ⟨m, hn, hl⟩ := I.loc
  have vis : Vis X.env.scope x := by rcases hx with k | k; exact .inl k; exact .inr (.inl k)
  obtain ⟨u, r, l⟩ := hl i x v hi e1 vis
  refine wpAny_AugAssign_Name ?_
  have go : wpAny (model X.prog X.w) X.A (eval e X.env) (fun w s₂ => wpAny (model X.prog X.w) X.A (inplaceOp op u w) (fun r s₃ => wpAny (model X.prog X.w) X.A (storeName X.env x r) (fun _ => SP X pins D .next) X.xe s₃) X.xe s₂) X.xe s := by
    refine thn (he pins s σ H _ I h) fun w s1 ⟨y, H1, I1, r1, q1⟩ => ?_
    refine thn (ho pins s1 σ H1 v y u w _ I1 r r1 q1) fun z s2 ⟨zv, H2, I2, r2, q2⟩ => ?_
    exact store_ok I2 hN hi hx r2 (fun s3 I3 => ⟨_, H2, I3, q2⟩) hf
  rcases l with ⟨hk, hm⟩ | ⟨hk, c, hc, hcell⟩
  · exact wpAny_loadName_local I.ok.kind hk hn hm go
  · rcases hk with hk | hk
    · exact wpAny_loadName_cell I.ok.kind hk hc hcell go
    · rcases hx with k | k
      · have : X.env.scope.names.lookup x = some .free := hk
        rw [k] at this; cases this
      · have : X.env.scope.names.lookup x = some .free := hk
        rw [k] at this; cases this
/-- o[i] op= e -/
def tAugS (to ti te : TE) (tget : V → V → Hp → VK → Prop) (tip : TIp) (tset : TSet) : TS := fun D σ H => to σ H fun o H1 => ti σ H1 fun i H2 => tget o i H2 fun x H3 => te σ H3 fun y H4 => tip x y H4 fun z H5 => tset o i z H5 fun H6 => D.nx σ H6
/-- o[i], by values -/
def PGet (X : Cx) (t : V → V → Hp → VK → Prop) : Prop :=
  ∀ (pins : List (Addr × Obj)) (s : Shared) (σ : St) (H : Hp) (o i : V) (ov iv : Value) (Q : VK), Inv X pins σ H s → RelV o ov → RelV i iv → t o i H Q →
    wpAny (model X.prog X.w) X.A (getItem ov iv) (EP X pins σ Q) X.xe s
theorem ps_augS {o i e : Expr} {to ti te : TE} {tget : V → V → Hp → VK → Prop} {tip : TIp} {tset : TSet} {op : Operator} {tpos : Pos} (ho : PE X o to) (hi : PE X i ti) (hg : PGet X tget) (he : PE X e te) (hp : PIp X op tip) (hs : PSet X tset)
    (ha : ∀ ov iv new, augStore i ov iv new = (do holding [new, ov, iv] (setItem ov iv new); release [new, ov, iv] []; pure .next) := by intros; rfl) : PS X (.AugAssign (.Subscript o i tpos) op e pos) (tAugS to ti te tget tip tset) := by
  intro pins s σ H D I h
  refine wpAny_AugAssign_SubscriptAny (thn (ho pins s σ H _ I h) fun ov s1 ⟨x1, H1, I1, r1, q1⟩ => ?_) ha
  refine thn (hi pins s1 σ H1 _ I1 q1) fun iv s2 ⟨x2, H2, I2, r2, q2⟩ => ?_
  refine thn (hg pins s2 σ H2 x1 x2 ov iv _ I2 r1 r2 q2) fun old s3 ⟨x3, H3, I3, r3, q3⟩ => ?_
  refine thn (he pins s3 σ H3 _ I3 q3) fun v s4 ⟨x4, H4, I4, r4, q4⟩ => ?_
  refine thn (hp pins s4 σ H4 x3 x4 old v _ I4 r3 r4 q4) fun new s5 ⟨x5, H5, I5, r5, q5⟩ => ?_
  exact thn (hs pins s5 σ H5 x1 x2 x5 ov iv new _ I5 r1 r2 r5 q5) fun _ s6 ⟨H6, I6, q6⟩ => ⟨σ, H6, I6, q6⟩
/-- ints -/
def ipI (f : Int → Int → Int) : TIp := fun x y H Q => ∃ i j, x = .int i ∧ y = .int j ∧ Q (.int (f i j)) H
theorem ip_add : PIp X .Add (ipI fun i j => i + j) := by
  intro pins s σ H x y v u Q I r1 r2 h
  obtain ⟨i, j, e1, e2, q⟩ := h
  subst e1; subst e2
  obtain ⟨t, rfl⟩ := r1
  obtain ⟨t', rfl⟩ := r2
  exact iadd_int ⟨.int _, H, I.tok _, ⟨_, rfl⟩, q⟩
theorem ip_sub : PIp X .Sub (ipI fun i j => i - j) := by
  intro pins s σ H x y v u Q I r1 r2 h
  obtain ⟨i, j, e1, e2, q⟩ := h
  subst e1; subst e2
  obtain ⟨t, rfl⟩ := r1
  obtain ⟨t', rfl⟩ := r2
  exact isub_int ⟨.int _, H, I.tok _, ⟨_, rfl⟩, q⟩
end

/-! ### while -/
section
variable {X : Cx} {pos : Pos}
/-- the invariant W with its measure -/
def tWhile (c : TT) (tb : TS) : TS := fun D σ H => ∃ W : Nat → St → Hp → Prop, (∃ m, W m σ H) ∧ ∀ m σ H, W m σ H →
  c σ H fun b H1 => if b = true then ∃ N : St → Hp → Prop, (∀ σ' H', N σ' H' → ∃ m', m' < m ∧ W m' σ' H') ∧ tb { D with nx := N, ct := N, bk := D.nx } σ H1 else D.nx σ H1
theorem ps_while {c : Expr} {body : List Stmt} {tc : TT} {tb : TS} (hp : PassesOwn (model X.prog X.w) X.A X.env X.xe) (hc : PT X c tc) (hb : PSs X body tb) : PS X (.While c body [] pos) (tWhile tc tb) := by
  intro pins s σ H D I h
  obtain ⟨W, ⟨m0, w0⟩, turn⟩ := h
  refine wpAny_While (codeAny_whileLoop (fun n s' => ∃ σ' H', Inv X pins σ' H' s' ∧ W n σ' H') ?_ m0 ⟨σ, H, I, w0⟩)
  rintro n s1 ⟨σ1, H1, I1, w1⟩
  refine wpAny_passesOwn hp (thn (hc pins s1 σ1 H1 _ I1 (turn n σ1 H1 w1)) fun b s2 ⟨H2, I2, q2⟩ => ?_)
  cases b with
  | true =>
    obtain ⟨N, hN, q2⟩ := q2
    rw [if_pos rfl]
    refine wpAny_passesOwn hp (thn (hb pins s2 σ1 H2 _ I2 q2) fun f s3 q3 => ?_)
    cases f with
    | next =>
      obtain ⟨σ3, H3, I3, n3⟩ := q3
      obtain ⟨m', hm, w3⟩ := hN σ3 H3 n3
      exact ⟨m', hm, σ3, H3, I3, w3⟩
    | cont =>
      obtain ⟨σ3, H3, I3, n3⟩ := q3
      obtain ⟨m', hm, w3⟩ := hN σ3 H3 n3
      exact ⟨m', hm, σ3, H3, I3, w3⟩
    | brk => exact q3
    | ret v => exact q3
  | false =>
    rw [if_neg Bool.false_ne_true]
    exact wpAny_execs_nil ⟨σ1, H2, I2, q2⟩
end

/-! ### what a loop or a comprehension walks -/
/-- at turn i: it yields x (the heap may grow), or it stops -/
structure It where
  go : Nat → Hp → Prop
  yld : Nat → Hp → V → Hp → Prop
  stop : Nat → Hp → Prop
/-- the iterator's own objects may turn: they are not the frame's, not pinned, younger than the entry (or a comprehension's own) -/
def FpOk (X : Cx) (pins : List (Addr × Obj)) (H : Hp) (b : Addr) : Prop :=
  H b = none ∧ b ≠ X.env.locals ∧ b ∉ X.fs ∧ (b ∈ X.ex ∨ X.s₀.heap.objs.size ≤ b) ∧ (∀ x c, X.env.cells.lookup x = some c → c ≠ b) ∧ ∀ p ∈ X.pn ++ pins, p.1 ≠ b
theorem Inv.fpOk {X : Cx} {pins : List (Addr × Obj)} {σ : St} {H H' : Hp} {s : Shared} {b : Addr} (I : Inv X pins σ H s) (hb : s.heap.objs.size ≤ b) (hn : H' b = none) : FpOk X pins H' b := by
  refine ⟨hn, Nat.ne_of_gt (Nat.lt_of_lt_of_le I.lt hb), I.nofs hb, .inr (Nat.le_trans I.sz hb), fun x c e z => ?_, fun p hp z => ?_⟩
  · obtain ⟨v, q⟩ := I.cell x c e
    exact absurd (Nat.lt_of_lt_of_le q.lt (by rw [z]; exact hb)) (Nat.lt_irrefl _)
  · exact absurd (Nat.lt_of_lt_of_le (Heap.lt_size (I.pin p hp).1) (by rw [z]; exact hb)) (Nat.lt_irrefl _)
structure Turn (P : Program) (w : World) (K : PySem.W.Frag) (tg : Expr) (J : It) (fp : List Addr) (it : Addr) (tn : Nat → Heap → Prop) : Prop where
  mem : it ∈ fp
  obj : ∀ i h, tn i h → ∀ b ∈ fp, ∃ o, h.get? b = some o ∧ ∀ v, o.data ≠ .cell v
  keep : ∀ i h h', tn i h → (∀ b ∈ fp, ∀ o, h.get? b = some o → h'.get? b = some o) → tn i h'
  item : ∀ (X : Cx), X.prog = P → X.w = w → X.K = K → X.calm = true → ∀ (i : Nat) (pins : List (Addr × Obj)) (s : Shared) (σ : St) (H : Hp) (E : Value → Shared → Prop), Inv X pins σ H s → (∀ b ∈ fp, FpOk X pins H b) → tn i s.heap → J.go i H →
    wpAny (model P w) X.A (pyNext (.ref it)) (fun r s1 => ∃ u, r = some u ∧
      wpAny (model P w) X.A (letOwnedTupleGo tg (.ref it) u) (fun _ s2 => ∃ x H', Inv X pins σ H' s2 ∧ RelV x u ∧ J.yld i H x H' ∧ tn (i + 1) s2.heap ∧ ∀ b ∈ fp, H' b = none) E s1) E s
  done : ∀ (X : Cx), X.prog = P → X.w = w → X.K = K → X.calm = true → ∀ (i : Nat) (pins : List (Addr × Obj)) (s : Shared) (σ : St) (H : Hp) (E : Value → Shared → Prop), Inv X pins σ H s → (∀ b ∈ fp, FpOk X pins H b) → tn i s.heap → J.stop i H →
    wpAny (model P w) X.A (pyNext (.ref it)) (fun r s1 => r = none ∧ Inv X pins σ H s1) E s
  self : ∀ (A : Around) (i : Nat) (s : Shared) (Q : Value → Shared → Prop) (E : Value → Shared → Prop), tn i s.heap → Q (.ref it) s → wpAny (model P w) A (pyIter (.ref it)) Q E s
abbrev TI := St → Hp → (It → Hp → Prop) → Prop
/-- an iterator has come -/
def PIE (X : Cx) (pins : List (Addr × Obj)) (σ : St) (tg : Expr) (R : It → Hp → Prop) (itv : Value) (s2 : Shared) : Prop :=
  ∃ (it : Addr) (fp : List Addr) (tn : Nat → Heap → Prop) (J : It) (H' : Hp), itv = .ref it ∧ Inv X pins σ H' s2 ∧ Turn X.prog X.w X.K tg J fp it tn ∧ tn 0 s2.heap ∧ (∀ b ∈ fp, FpOk X pins H' b) ∧ R J H'
def PI (X : Cx) (tg iter : Expr) (wi : TI) : Prop :=
  ∀ (pins : List (Addr × Obj)) (s : Shared) (σ : St) (H : Hp) (R : It → Hp → Prop), Inv X pins σ H s → wi σ H R →
    wpAny (model X.prog X.w) X.A (eval iter X.env) (fun v s1 => wpAny (model X.prog X.w) X.A (pyIter v) (PIE X pins σ tg R) X.xe s1) X.xe s

/-- the step ahead of the store is nothing for an iterator that keeps no tuple -/
theorem go_of {M : Model} {A : Around} {E : Value → Shared → Prop} {s : Shared} {tg : Expr} {it : Addr} {u : Value} {o : Obj} {n : String} {vs : Array Value} {Q : Unit → Shared → Prop} (ho : s.heap.get? it = some o) (hc : o.cls = .type n) (hd : o.data = .fields vs)
    (hn : ["enumerate", "zip", "dict_itemiterator", "dict_reverseitemiterator", "odict_iterator", "itertools.zip_longest", "itertools.pairwise"].contains n = false) (hQ : Q () s) : wpAny M A (letOwnedTupleGo tg (.ref it) u) Q E s := by
  unfold letOwnedTupleGo
  cases tg <;> first
    | exact wpAny_pure hQ
    | (cases u <;> first
        | exact wpAny_pure hQ
        | (refine wpAny_bind (wpAny_load ho ?_)
           rw [hc, hd]
           show wpAny M A (if (["enumerate", "zip", "dict_itemiterator", "dict_reverseitemiterator", "odict_iterator", "itertools.zip_longest", "itertools.pairwise"].contains n && vs[0]? == some (rawInt _)) = true then _ else _) Q E s
           rw [if_neg (by intro h; rw [hn, Bool.false_and] at h; cases h)]
           exact wpAny_pure hQ))

/-- the list at a, as it stands at each turn (a loop may append to it) -/
def Itl (K : PySem.W.Frag) (a : Addr) : It :=
  ⟨fun i H => ∃ xs x, SqL K H a xs ∧ xs[i]? = some x, fun i H x H' => H' = H ∧ ∀ xs, SqL K H a xs → xs[i]? = some x, fun i H => ∃ xs, SqL K H a xs ∧ xs.length ≤ i⟩
def Itt (K : PySem.W.Frag) (a : Addr) : It :=
  ⟨fun i H => ∃ xs x, SqT K H a xs ∧ xs[i]? = some x, fun i H x H' => H' = H ∧ ∀ xs, SqT K H a xs → xs[i]? = some x, fun i H => ∃ xs, SqT K H a xs ∧ xs.length ≤ i⟩
/-- lo, lo + 1, .. (n of them) -/
def Itr (lo : Int) (n : Nat) : It := ⟨fun i _ => i < n, fun i H x H' => H' = H ∧ x = .int (lo + i), fun i _ => n ≤ i⟩
theorem turn_list {P : Program} {w : World} {K : PySem.W.Frag} {tg : Expr} (a it : Addr) : Turn P w K tg (Itl K a) [it] it (fun i h => h.IsListIter it a i) where
  mem := by simp
  obj := fun i h st b hb => by
    have e : b = it := by simpa using hb
    subst e
    obtain ⟨o, e, c, d⟩ := st
    exact ⟨o, e, fun v z => by rw [d] at z; cases z⟩
  keep := fun i h h' st k => st.at fun o e => k it (by simp) o e
  item := by
    intro X hP hw hK hc i pins s σ H E I hf st hg
    subst hP hw hK
    obtain ⟨xs, x, hq, hx⟩ := hg
    obtain ⟨its, rv, p, hz⟩ := I.list hq
    obtain ⟨u, hu, ru⟩ := rv.get hx
    obtain ⟨f0, f1, f2, f3, f4, f5⟩ := hf it (by simp)
    refine wpAny_pyNext_list_item st p.isList (x := u) (by simpa using hu) fun h' st' sb => ?_
    have I1 : Inv X pins σ H { s with heap := h' } := I.turned (t' := s.toks) (fun b o hb e => (sb.2 b hb).trans e) f0 f1 f3 f4 f5
    obtain ⟨o, e, c, d⟩ := id st'
    exact ⟨u, rfl, go_of (s := { s with heap := h' }) e c d (by decide) ⟨x, H, I1, ru, ⟨rfl, fun ys hy => by rw [I.list_inj hy hq]; exact hx⟩, st', fun b hb => (hf b hb).1⟩⟩
  done := by
    intro X hP hw hK hc i pins s σ H E I hf st hg
    subst hP hw hK
    obtain ⟨xs, hq, hx⟩ := hg
    obtain ⟨its, rv, p, hz⟩ := I.list hq
    obtain ⟨f0, f1, f2, f3, f4, f5⟩ := hf it (by simp)
    have hl := rv.length
    exact wpAny_pyNext_list_end (I.ok.hd hc) st p.isList (by simp; omega) fun h' eb => ⟨rfl, I.turned (t' := s.toks) (fun b o hb e => eb b o hb e) f0 f1 f3 f4 f5⟩
  self := fun _ _ _ _ _ st h => wpAny_pyIter_listiter st h
theorem turn_tuple {P : Program} {w : World} {K : PySem.W.Frag} {tg : Expr} (a it : Addr) : Turn P w K tg (Itt K a) [it] it (fun i h => h.IsTupleIter it a i) where
  mem := by simp
  obj := fun i h st b hb => by
    have e : b = it := by simpa using hb
    subst e
    obtain ⟨o, e, c, d⟩ := st
    exact ⟨o, e, fun v z => by rw [d] at z; cases z⟩
  keep := fun i h h' st k => st.at fun o e => k it (by simp) o e
  item := by
    intro X hP hw hK hc i pins s σ H E I hf st hg
    subst hP hw hK
    obtain ⟨xs, x, hq, hx⟩ := hg
    obtain ⟨its, rv, p, hz⟩ := I.tuple hq
    obtain ⟨u, hu, ru⟩ := rv.get hx
    obtain ⟨f0, f1, f2, f3, f4, f5⟩ := hf it (by simp)
    refine wpAny_pyNext_tuple_item st (show s.heap.IsTuple a its.toArray from p) (x := u) (by simpa using hu) fun h' st' sb => ?_
    have I1 : Inv X pins σ H { s with heap := h' } := I.turned (t' := s.toks) (fun b o hb e => (sb.2 b hb).trans e) f0 f1 f3 f4 f5
    obtain ⟨o, e, c, d⟩ := id st'
    exact ⟨u, rfl, go_of (s := { s with heap := h' }) e c d (by decide) ⟨x, H, I1, ru, ⟨rfl, fun ys hy => by rw [I.tuple_inj hy hq]; exact hx⟩, st', fun b hb => (hf b hb).1⟩⟩
  done := by
    intro X hP hw hK hc i pins s σ H E I hf st hg
    subst hP hw hK
    obtain ⟨xs, hq, hx⟩ := hg
    obtain ⟨its, rv, p, hz⟩ := I.tuple hq
    obtain ⟨f0, f1, f2, f3, f4, f5⟩ := hf it (by simp)
    have hl := rv.length
    exact wpAny_pyNext_tuple_end (I.ok.hd hc) st (show s.heap.IsTuple a its.toArray from p) (by simp; omega) fun h' eb => ⟨rfl, I.turned (t' := s.toks) (fun b o hb e => eb b o hb e) f0 f1 f3 f4 f5⟩
  self := fun _ _ _ _ _ st h => wpAny_pyIter_tupleiter st h
theorem turn_range {P : Program} {w : World} {K : PySem.W.Frag} {tg : Expr} (it : Addr) (lo : Int) (n : Nat) : Turn P w K tg (Itr lo n) [it] it (fun i h => IsRangeIter h it (lo + (i : Nat) * 1) ((n : Int) - (i : Nat)) 1) where
  mem := by simp
  obj := fun i h st b hb => by
    have e : b = it := by simpa using hb
    subst e
    exact ⟨_, st, fun v z => by
      have z' : Data.fields _ = Data.cell v := z
      cases z'⟩
  keep := fun i h h' st k => k it (by simp) _ st
  item := by
    intro X hP hw hK hc i pins s σ H E I hf st hg
    subst hP hw hK
    obtain ⟨f0, f1, f2, f3, f4, f5⟩ := hf it (by simp)
    have W := Walks.range (prog := X.prog) (w := X.w) (I.ok.hd hc) it lo 1 n
    refine W.item i s _ _ hg st fun v h' tk hv st' kk => ?_
    obtain ⟨t, rfl⟩ := hv
    have I1 : Inv X pins σ H { s with heap := h', toks := tk } := I.turned (fun b o hb e => kk b o (by simpa using hb) e) f0 f1 f3 f4 f5
    refine ⟨_, rfl, go_of (s := { s with heap := h', toks := tk }) (n := "range_iterator") st' rfl rfl (by decide) ⟨.int (lo + i), H, I1, ⟨t, ?_⟩, ⟨rfl, rfl⟩, st', fun b hb => (hf b hb).1⟩⟩
    rw [Int.mul_one]
  done := by
    intro X hP hw hK hc i pins s σ H E I hf st hg
    subst hP hw hK
    obtain ⟨f0, f1, f2, f3, f4, f5⟩ := hf it (by simp)
    exact wpAny_pyNext_range_end (I.ok.hd hc) st (by have : n ≤ i := hg; omega) fun h' eb => ⟨rfl, I.turned (t' := s.toks) (fun b o hb e => eb b o hb e) f0 f1 f3 f4 f5⟩
  self := fun _ _ _ _ _ st h => wpAny_pyIter_rangeiter st h
end L2

namespace L2
open PySem PySem.Spec PyProof.Rows
section
variable {X : Cx} {tg : Expr}
def iList (K : PySem.W.Frag) (tl : TE) : TI := fun σ H R => tl σ H fun x H1 => ∃ a, x = .ref a ∧ (∃ xs, SqL K H1 a xs) ∧ R (Itl K a) H1
def iTup (K : PySem.W.Frag) (tl : TE) : TI := fun σ H R => tl σ H fun x H1 => ∃ a, x = .ref a ∧ (∃ xs, SqT K H1 a xs) ∧ R (Itt K a) H1
theorem pi_list {l : Expr} {tl : TE} (hl : PE X l tl) : PI X tg l (iList X.K tl) := by
  intro pins s σ H R I h
  refine thn (hl pins s σ H _ I h) fun v s1 ⟨x, H1, I1, r1, q1⟩ => ?_
  obtain ⟨a, e, ⟨xs, hq⟩, q⟩ := q1
  subst e
  cases r1
  obtain ⟨its, rv, p, hz⟩ := I1.list hq
  refine wpAny_pyIter_list p.isList ?_
  refine ⟨s1.heap.objs.size, [s1.heap.objs.size], _, _, H1, rfl, I1.kept (t' := s1.toks) fun b o e => Heap.get?_push_of_some _ e, turn_list a _, ⟨_, Heap.get?_push_size _ rfl, rfl, rfl⟩, fun b hb => ?_, q⟩
  have e : b = s1.heap.objs.size := by simpa using hb
  subst e
  exact I1.fpOk (Nat.le_refl _) (I1.hok.fresh (Nat.le_refl _))
theorem pi_tup {l : Expr} {tl : TE} (hl : PE X l tl) : PI X tg l (iTup X.K tl) := by
  intro pins s σ H R I h
  refine thn (hl pins s σ H _ I h) fun v s1 ⟨x, H1, I1, r1, q1⟩ => ?_
  obtain ⟨a, e, ⟨xs, hq⟩, q⟩ := q1
  subst e
  cases r1
  obtain ⟨its, rv, p, hz⟩ := I1.tuple hq
  refine wpAny_pyIter_tuple (show s1.heap.IsTuple a its.toArray from p) ?_
  refine ⟨s1.heap.objs.size, [s1.heap.objs.size], _, _, H1, rfl, I1.kept (t' := s1.toks) fun b o e => Heap.get?_push_of_some _ e, turn_tuple a _, ⟨_, Heap.get?_push_size _ rfl, rfl, rfl⟩, fun b hb => ?_, q⟩
  have e : b = s1.heap.objs.size := by simpa using hb
  subst e
  exact I1.fpOk (Nat.le_refl _) (I1.hok.fresh (Nat.le_refl _))
/-- a range object just made, walked -/
theorem range_it {pins : List (Addr × Obj)} {σ : St} {H : Hp} {s : Shared} {R : It → Hp → Prop} {E : Value → Shared → Prop} {lo hi : Int} {t u v : Tok} {tk : Nat} (I : Inv X pins σ H s) (h1 : -(2 ^ 62) ≤ lo) (h2 : lo < 2 ^ 62) (h3 : -(2 ^ 62) ≤ hi) (h4 : hi < 2 ^ 62)
    (q : R (Itr lo (hi - lo).toNat) H) : wpAny (model X.prog X.w) X.A (pyIter (.ref s.heap.objs.size)) (PIE X pins σ tg R) E { s with heap := s.heap.push { cls := .type "range", data := .fields #[.int lo t, .int hi u, .int 1 v] }, toks := tk } := by
  refine wpAny_pyIter_range (IsRange.new ..) (small_one h1 h2 h3 h4) ?_
  have I1 : Inv X pins σ H { s with heap := s.heap.push { cls := .type "range", data := .fields #[.int lo t, .int hi u, .int 1 v] }, toks := tk } := I.kept fun b o e => Heap.get?_push_of_some _ e
  refine ⟨(s.heap.push { cls := .type "range", data := .fields #[.int lo t, .int hi u, .int 1 v] }).objs.size, [(s.heap.push { cls := .type "range", data := .fields #[.int lo t, .int hi u, .int 1 v] }).objs.size], _, _, H, rfl,
    I1.kept (t' := tk) fun b o e => Heap.get?_push_of_some _ e, turn_range _ lo (hi - lo).toNat, ?_, fun b hb => ?_, q⟩
  · have e1 : lo + ((0 : Nat) : Int) * 1 = lo := by simp
    have e2 : (((hi - lo).toNat : Nat) : Int) - ((0 : Nat) : Int) = Builtin.Range.rangeSize lo hi 1 := by rw [rangeSize_one]; split <;> omega
    show IsRangeIter _ _ (lo + ((0 : Nat) : Int) * 1) ((((hi - lo).toNat : Nat) : Int) - ((0 : Nat) : Int)) 1
    rw [e1, e2]
    exact Heap.get?_push_size _ rfl
  · have e : b = (s.heap.push { cls := .type "range", data := .fields #[.int lo t, .int hi u, .int 1 v] }).objs.size := by simpa using hb
    subst e
    exact I1.fpOk (Nat.le_refl _) (I1.hok.fresh (Nat.le_refl _))
def iRng1 (ta : TA) : TI := fun σ H R => ta σ H fun vs H1 => ∃ j : Int, vs = [.int j] ∧ -(2 ^ 62) ≤ j ∧ j < 2 ^ 62 ∧ R (Itr 0 j.toNat) H1
def iRng2 (ta : TA) : TI := fun σ H R => ta σ H fun vs H1 => ∃ i j : Int, vs = [.int i, .int j] ∧ (-(2 ^ 62) ≤ i ∧ i < 2 ^ 62 ∧ -(2 ^ 62) ≤ j ∧ j < 2 ^ 62) ∧ R (Itr i (j - i).toNat) H1
theorem pi_range1 {a : Expr} {ta : TA} {p pos : Pos} (hg : Gl X "range") (hm : X.mg "range" = none) (ha : PA X [a] ta) (hs : starEach [a] X.env = [(false, eval a X.env)] := by rfl) : PI X tg (.Call (.Name "range" p) [a] [] pos) (iRng1 ta) := by
  intro pins s σ H R I h
  refine Call_ (ld_blt I hg hm boot_range (PyProof.Rows.callWith_type1 (thn (ha pos pins s σ H _ I h) fun us s1 ⟨vs, H1, I1, r1, q1⟩ => ?_) hs rfl))
  obtain ⟨j, e, q1, q2, q⟩ := q1
  subst e
  cases r1 with
  | cons r rr =>
    cases rr
    obtain ⟨t, rfl⟩ := r
    exact call_range_1 (range_it I1 (by omega) (by omega) q1 q2 (by simpa using q))
theorem pi_range2 {a b : Expr} {ta : TA} {p pos : Pos} (hg : Gl X "range") (hm : X.mg "range" = none) (ha : PA X [a, b] ta) (hs : starEach [a, b] X.env = [(false, eval a X.env), (false, eval b X.env)] := by rfl) (hs2 : starEach [b] X.env = [(false, eval b X.env)] := by rfl) :
    PI X tg (.Call (.Name "range" p) [a, b] [] pos) (iRng2 ta) := by
  intro pins s σ H R I h
  refine Call_ (ld_blt I hg hm boot_range (PyProof.Rows.callWith_type1 (thn (ha pos pins s σ H _ I h) fun us s1 ⟨vs, H1, I1, r1, q1⟩ => ?_) (by rw [hs, hs2]) (by rw [hs2]; rfl)))
  obtain ⟨i, j, e, ⟨q1, q2, q3, q4⟩, q⟩ := q1
  subst e
  cases r1 with
  | cons r rr =>
    cases rr with
    | cons r' rr =>
      cases rr
      obtain ⟨t, rfl⟩ := r
      obtain ⟨t', rfl⟩ := r'
      exact call_range_2 (range_it I1 q1 q2 q3 q4 q)

/-! ### for -/
/-- W: the invariant by the turn and a measure; N: what the body is to reach -/
def tFor (wi : TI) (g : TG) (tb : TS) : TS := fun D σ H => wi σ H fun J H1 => ∃ W : Nat → Nat → St → Hp → Prop, (∃ m, W 0 m σ H1) ∧ ∀ i m σ H, W i m σ H →
  (J.stop i H ∧ D.nx σ H) ∨ (J.go i H ∧ ∃ N : St → Hp → Prop, (∀ σ' H', N σ' H' → ∃ m', m' < m ∧ W (i + 1) m' σ' H') ∧ ∀ x H', J.yld i H x H' → g x σ H' fun σ2 H2 => tb { D with nx := N, ct := N, bk := D.nx } σ2 H2)
/-- the records at fp as they stand -/
def pinsAt (fp : List Addr) (h : Heap) : List (Addr × Obj) := fp.filterMap fun b => (h.get? b).map fun o => (b, o)
theorem mem_pinsAt {fp : List Addr} {h : Heap} {b : Addr} {o : Obj} (hb : b ∈ fp) (e : h.get? b = some o) : (b, o) ∈ pinsAt fp h := List.mem_filterMap.mpr ⟨b, hb, by rw [e]; rfl⟩
theorem of_pinsAt {fp : List Addr} {h : Heap} {p : Addr × Obj} (hp : p ∈ pinsAt fp h) : p.1 ∈ fp ∧ h.get? p.1 = some p.2 := by
  obtain ⟨b, hb, e⟩ := List.mem_filterMap.mp hp
  cases q : h.get? b with
  | none => rw [q] at e; cases e
  | some o =>
    rw [q] at e
    have e' : (b, o) = p := Option.some.inj e
    subst e'
    exact ⟨hb, q⟩
theorem Inv.pinned {pins : List (Addr × Obj)} {σ : St} {H : Hp} {s : Shared} {fp : List Addr} (I : Inv X pins σ H s) (hf : ∀ b ∈ fp, FpOk X pins H b) (ho : ∀ b ∈ fp, ∃ o, s.heap.get? b = some o ∧ ∀ v, o.data ≠ .cell v) : Inv X (pins ++ pinsAt fp s.heap) σ H s :=
  I.pins_of fun p hp => (List.mem_append.mp hp).elim (fun z => I.pin p (List.mem_append_right _ z)) fun z => by
    obtain ⟨hb, e⟩ := of_pinsAt z
    obtain ⟨f0, f1, f2, _⟩ := hf p.1 hb
    obtain ⟨o, e', d⟩ := ho p.1 hb
    rw [e] at e'; cases e'
    exact ⟨e, f0, f1, f2, d⟩
theorem Inv.unpinned {pins pl : List (Addr × Obj)} {σ : St} {H : Hp} {s : Shared} (I : Inv X (pins ++ pl) σ H s) : Inv X pins σ H s := I.pins_of fun p hp => I.pin p (List.mem_append_right _ (List.mem_append_left _ hp))
theorem ps_for {iter : Expr} {body : List Stmt} {wi : TI} {g : TG} {tb : TS} {pos : Pos} (hp : PassesOwn (model X.prog X.w) X.A X.env X.xe) (hc : X.calm = true) (hi : PI X tg iter wi) (hg : PG X tg g) (hb : PSs X body tb)
    (hs : ∀ x, foldedSetIterable iter X.env x = pure x := by intro _; rfl) : PS X (.For tg iter body [] pos) (tFor wi g tb) := by
  intro pins s σ H D I h
  refine wpAny_For (thn (hi pins s σ H _ I h) fun v s1 h1 => thn h1 fun itv s2 h2 => ?_) hs
  obtain ⟨it, fp, tn, J, H2, e, I2, T, st2, f2, W, ⟨m0, w0⟩, turn⟩ := h2
  subst e
  -- what stays true of the iterator's objects through the loop
  have stat : ∀ {H' : Hp}, (∀ b ∈ fp, H' b = none) → ∀ b ∈ fp, FpOk X pins H' b := fun hn b hb => ⟨hn b hb, (f2 b hb).2⟩
  refine codeAny_forLoop_any (fun n s' => ∃ i σ' H', Inv X pins σ' H' s' ∧ tn i s'.heap ∧ (∀ b ∈ fp, H' b = none) ∧ W i n σ' H') ?_ m0 ⟨0, σ, H2, I2, st2, fun b hb => (f2 b hb).1, w0⟩
  rintro n s3 ⟨i, σ3, H3, I3, st3, fr3, w3⟩
  rcases turn i n σ3 H3 w3 with ⟨stop, qn⟩ | ⟨go, N, hN, step⟩
  · refine wpAny_passesOwn hp (thn (T.done X rfl rfl rfl hc i pins s3 σ3 H3 X.xe I3 (stat fr3) st3 stop) fun r s4 ⟨hr, I4⟩ => ?_)
    subst hr
    exact wpAny_execs_nil ⟨σ3, H3, I4, qn⟩
  · refine wpAny_passesOwn hp (thn (T.item X rfl rfl rfl hc i pins s3 σ3 H3 X.xe I3 (stat fr3) st3 go) fun r s4 ⟨u, hr, h4⟩ => ?_)
    subst hr
    refine wpAny_passesOwn hp (thn h4 fun _ s5 ⟨x, H5, I5, r5, y5, st5, fr5⟩ => ?_)
    have I5' := I5.pinned (stat fr5) (T.obj _ _ st5)
    refine wpAny_passesOwn hp (thn (hg _ s5 σ3 H5 x u _ I5' r5 (step x H5 y5)) fun _ s6 ⟨σ6, H6, I6, q6⟩ => ?_)
    refine wpAny_passesOwn hp (thn (hb _ s6 σ6 H6 _ I6 q6) fun f s7 q7 => ?_)
    have again : ∀ {σ7 : St} {H7 : Hp}, Inv X (pins ++ pinsAt fp s5.heap) σ7 H7 s7 → N σ7 H7 → ∃ m, m < n ∧ ∃ i σ' H', Inv X pins σ' H' s7 ∧ tn i s7.heap ∧ (∀ b ∈ fp, H' b = none) ∧ W i m σ' H' := fun {σ7 H7} I7 n7 => by
      obtain ⟨m', hm, w7⟩ := hN σ7 H7 n7
      refine ⟨m', hm, i + 1, σ7, H7, I7.unpinned, T.keep _ _ _ st5 fun b hb o e => (I7.pin (b, o) (List.mem_append_right _ (List.mem_append_right _ (mem_pinsAt hb e)))).1, fun b hb => ?_, w7⟩
      obtain ⟨o, e, d⟩ := T.obj _ _ st5 b hb
      exact (I7.pin (b, o) (List.mem_append_right _ (List.mem_append_right _ (mem_pinsAt hb e)))).2.1
    cases f with
    | next => obtain ⟨σ7, H7, I7, n7⟩ := q7; exact again I7 n7
    | cont => obtain ⟨σ7, H7, I7, n7⟩ := q7; exact again I7 n7
    | brk => obtain ⟨σ7, H7, I7, q7⟩ := q7; exact ⟨σ7, H7, I7.unpinned, q7⟩
    | ret v => obtain ⟨x7, σ7, H7, I7, r7, q7⟩ := q7; exact ⟨x7, σ7, H7, I7.unpinned, r7, q7⟩
end

/-! ### the forms one uses -/
/-- over a list that the body leaves as it is -/
theorem for_list {K : PySem.W.Frag} {a : Addr} {xs : List V} {g : TG} {tb : TS} {D : Ends} {σ : St} {H : Hp} (Pv : Nat → St → Hp → Prop) (h0 : Pv 0 σ H) (hl : ∀ i σ H, i ≤ xs.length → Pv i σ H → SqL K H a xs)
    (hs : ∀ i x σ H, xs[i]? = some x → Pv i σ H → g x σ H fun σ2 H2 => tb { D with nx := Pv (i + 1), ct := Pv (i + 1), bk := D.nx } σ2 H2) (hd : ∀ σ H, Pv xs.length σ H → D.nx σ H) :
    ∃ W : Nat → Nat → St → Hp → Prop, (∃ m, W 0 m σ H) ∧ ∀ i m σ H, W i m σ H →
      ((Itl K a).stop i H ∧ D.nx σ H) ∨ ((Itl K a).go i H ∧ ∃ N : St → Hp → Prop, (∀ σ' H', N σ' H' → ∃ m', m' < m ∧ W (i + 1) m' σ' H') ∧ ∀ x H', (Itl K a).yld i H x H' → g x σ H' fun σ2 H2 => tb { D with nx := N, ct := N, bk := D.nx } σ2 H2) := by
  refine ⟨fun i m σ H => m = xs.length - i ∧ i ≤ xs.length ∧ Pv i σ H, ⟨xs.length, by simp, Nat.zero_le _, h0⟩, ?_⟩
  rintro i m σ H ⟨rfl, hi, p⟩
  have q := hl i σ H hi p
  by_cases hlt : i < xs.length
  · refine .inr ⟨⟨xs, xs[i], q, by simp [hlt]⟩, Pv (i + 1), fun σ' H' p' => ⟨xs.length - (i + 1), by omega, rfl, hlt, p'⟩, fun x H' y => ?_⟩
    obtain ⟨e, y⟩ := y
    subst e
    exact hs i x σ _ (y xs q) p
  · have e : i = xs.length := by omega
    subst e
    exact .inl ⟨⟨xs, q, Nat.le_refl _⟩, hd σ H p⟩
theorem for_tup {K : PySem.W.Frag} {a : Addr} {xs : List V} {g : TG} {tb : TS} {D : Ends} {σ : St} {H : Hp} (Pv : Nat → St → Hp → Prop) (h0 : Pv 0 σ H) (hl : ∀ i σ H, i ≤ xs.length → Pv i σ H → SqT K H a xs)
    (hs : ∀ i x σ H, xs[i]? = some x → Pv i σ H → g x σ H fun σ2 H2 => tb { D with nx := Pv (i + 1), ct := Pv (i + 1), bk := D.nx } σ2 H2) (hd : ∀ σ H, Pv xs.length σ H → D.nx σ H) :
    ∃ W : Nat → Nat → St → Hp → Prop, (∃ m, W 0 m σ H) ∧ ∀ i m σ H, W i m σ H →
      ((Itt K a).stop i H ∧ D.nx σ H) ∨ ((Itt K a).go i H ∧ ∃ N : St → Hp → Prop, (∀ σ' H', N σ' H' → ∃ m', m' < m ∧ W (i + 1) m' σ' H') ∧ ∀ x H', (Itt K a).yld i H x H' → g x σ H' fun σ2 H2 => tb { D with nx := N, ct := N, bk := D.nx } σ2 H2) := by
  refine ⟨fun i m σ H => m = xs.length - i ∧ i ≤ xs.length ∧ Pv i σ H, ⟨xs.length, by simp, Nat.zero_le _, h0⟩, ?_⟩
  rintro i m σ H ⟨rfl, hi, p⟩
  have q := hl i σ H hi p
  by_cases hlt : i < xs.length
  · refine .inr ⟨⟨xs, xs[i], q, by simp [hlt]⟩, Pv (i + 1), fun σ' H' p' => ⟨xs.length - (i + 1), by omega, rfl, hlt, p'⟩, fun x H' y => ?_⟩
    obtain ⟨e, y⟩ := y
    subst e
    exact hs i x σ _ (y xs q) p
  · have e : i = xs.length := by omega
    subst e
    exact .inl ⟨⟨xs, q, Nat.le_refl _⟩, hd σ H p⟩
theorem for_range {lo : Int} {n : Nat} {g : TG} {tb : TS} {D : Ends} {σ : St} {H : Hp} (Pv : Nat → St → Hp → Prop) (h0 : Pv 0 σ H)
    (hs : ∀ i σ H, i < n → Pv i σ H → g (.int (lo + i)) σ H fun σ2 H2 => tb { D with nx := Pv (i + 1), ct := Pv (i + 1), bk := D.nx } σ2 H2) (hd : ∀ σ H, Pv n σ H → D.nx σ H) :
    ∃ W : Nat → Nat → St → Hp → Prop, (∃ m, W 0 m σ H) ∧ ∀ i m σ H, W i m σ H →
      ((Itr lo n).stop i H ∧ D.nx σ H) ∨ ((Itr lo n).go i H ∧ ∃ N : St → Hp → Prop, (∀ σ' H', N σ' H' → ∃ m', m' < m ∧ W (i + 1) m' σ' H') ∧ ∀ x H', (Itr lo n).yld i H x H' → g x σ H' fun σ2 H2 => tb { D with nx := N, ct := N, bk := D.nx } σ2 H2) := by
  refine ⟨fun i m σ H => m = n - i ∧ i ≤ n ∧ Pv i σ H, ⟨n, by simp, Nat.zero_le _, h0⟩, ?_⟩
  rintro i m σ H ⟨rfl, hi, p⟩
  by_cases hlt : i < n
  · refine .inr ⟨hlt, Pv (i + 1), fun σ' H' p' => ⟨n - (i + 1), by omega, rfl, hlt, p'⟩, fun x H' y => ?_⟩
    obtain ⟨e, y⟩ := y
    subst e y
    exact hs i σ _ hlt p
  · have e : i = n := by omega
    subst e
    exact .inl ⟨Nat.le_refl _, hd σ H p⟩
/-- while, by a word and a measure of the state -/
theorem while_by {c : TT} {tb : TS} {D : Ends} {σ : St} {H : Hp} (Pv : St → Hp → Prop) (μ : St → Hp → Nat) (h0 : Pv σ H)
    (hs : ∀ σ H, Pv σ H → c σ H fun b H1 => if b = true then tb { D with nx := fun σ' H' => Pv σ' H' ∧ μ σ' H' < μ σ H, ct := fun σ' H' => Pv σ' H' ∧ μ σ' H' < μ σ H, bk := D.nx } σ H1 else D.nx σ H1)
    (mono : ∀ σ H Q Q', (∀ b H1, Q b H1 → Q' b H1) → c σ H Q → c σ H Q') : tWhile c tb D σ H := by
  refine ⟨fun m σ H => m = μ σ H ∧ Pv σ H, ⟨_, rfl, h0⟩, ?_⟩
  rintro m σ H ⟨rfl, p⟩
  refine mono σ H _ _ (fun b H1 q => ?_) (hs σ H p)
  cases b with
  | true => exact ⟨_, fun σ' H' ⟨p', l⟩ => ⟨_, l, rfl, p'⟩, q⟩
  | false => exact q
end L2

namespace L2
open PySem PySem.Spec PyProof.Rows

abbrev R2 := V → V → Hp → VK → Prop
/-- a two-place operation on values: f is binaryOp op, inplaceOp op or compareOp op -/
def OpR (X : Cx) (f : Value → Value → Sem Value) (r : R2) : Prop :=
  ∀ (pins : List (Addr × Obj)) (s : Shared) (σ : St) (H : Hp) (x y : V) (v u : Value) (Q : VK), Inv X pins σ H s → RelV x v → RelV y u → r x y H Q →
    wpAny (model X.prog X.w) X.A (f v u) (EP X pins σ Q) X.xe s
/-- a one-place operation -/
def UnR (X : Cx) (f : Value → Sem Value) (r : V → Hp → VK → Prop) : Prop :=
  ∀ (pins : List (Addr × Obj)) (s : Shared) (σ : St) (H : Hp) (x : V) (v : Value) (Q : VK), Inv X pins σ H s → RelV x v → r x H Q →
    wpAny (model X.prog X.w) X.A (f v) (EP X pins σ Q) X.xe s
/-- a call of a value that is known (a builtin, a type) with values -/
def CallR (X : Cx) (f : Value) (r : List V → Hp → VK → Prop) : Prop :=
  ∀ (pins : List (Addr × Obj)) (s : Shared) (σ : St) (H : Hp) (xs : List V) (us : List Value) (Q : VK), Inv X pins σ H s → Vals xs us → r xs H Q →
    wpAny (model X.prog X.w) X.A (call f us) (EP X pins σ Q) X.xe s
/-- a value's truth -/
def TruR (X : Cx) (r : V → Hp → (Bool → Hp → Prop) → Prop) : Prop :=
  ∀ (pins : List (Addr × Obj)) (s : Shared) (σ : St) (H : Hp) (x : V) (v : Value) (Q : Bool → Hp → Prop), Inv X pins σ H s → RelV x v → r x H Q →
    wpAny (model X.prog X.w) X.A (truthy v) (TP X pins σ Q) X.xe s

def tOp (r : R2) (ta tb : TE) : TE := fun σ H Q => ta σ H fun x H1 => tb σ H1 fun y H2 => r x y H2 Q
def tUn (r : V → Hp → VK → Prop) (ta : TE) : TE := fun σ H Q => ta σ H fun x H1 => r x H1 Q
/-- ints in, under C, and a value out -/
def rI (C : Int → Int → Prop) (g : Int → Int → V) : R2 := fun x y H Q => ∃ i j, x = .int i ∧ y = .int j ∧ C i j ∧ Q (g i j) H
def rI0 (g : Int → Int → V) : R2 := fun x y H Q => ∃ i j, x = .int i ∧ y = .int j ∧ Q (g i j) H
def rU (g : Int → V) : V → Hp → VK → Prop := fun x H Q => ∃ i, x = .int i ∧ Q (g i) H

section
variable {X : Cx} {a b c : Expr} {ta tb tc : TE} {pos : Pos}

theorem binT (ha : PE X a ta) (hb : PE X b tb) {pins : List (Addr × Obj)} {s : Shared} {σ : St} {H : Hp} {R : V → V → Hp → Prop} (I : Inv X pins σ H s)
    (h : ta σ H fun x H1 => tb σ H1 fun y H2 => R x y H2) {Q : Value → Shared → Prop} {f : Value → Value → Sem Value}
    (hf : ∀ v u s2 x y H2, Inv X pins σ H2 s2 → RelV x v → RelV y u → R x y H2 → wpAny (model X.prog X.w) X.A (f v u) Q X.xe s2) :
    wpAny (model X.prog X.w) X.A (eval a X.env) (fun v s₁ => wpAny (model X.prog X.w) X.A (eval b X.env) (fun u s₂ => wpAny (model X.prog X.w) X.A (f v u) Q X.xe s₂) X.xe s₁) X.xe s := by
  refine thn (ha pins s σ H _ I h) fun v s1 ⟨x, H1, I1, r1, q1⟩ => ?_
  refine thn (hb pins s1 σ H1 _ I1 q1) fun u s2 ⟨y, H2, I2, r2, q2⟩ => ?_
  exact hf v u s2 x y H2 I2 r1 r2 q2

theorem pe_op {op : Operator} {r : R2} (ho : OpR X (binaryOp op) r) (ha : PE X a ta) (hb : PE X b tb) : PE X (.BinOp a op b pos) (tOp r ta tb) := by
  intro pins s σ H Q I h
  exact wpAny_BinOp (binT ha hb I h fun v u s2 x y H2 I2 rx ry q => ho pins s2 σ H2 x y v u Q I2 rx ry q)
theorem pe_un {op : UnaryOp} {r : V → Hp → VK → Prop} (ho : UnR X (unaryOp op) r) (ha : PE X a ta) : PE X (.UnaryOp op a pos) (tUn r ta) := by
  intro pins s σ H Q I h
  exact UnaryOp_ (thn (ha pins s σ H _ I h) fun v s1 ⟨x, H1, I1, r1, q1⟩ => ho pins s1 σ H1 x v Q I1 r1 q1)
/-- a op= e at a name: the name's slot i -/
theorem augR {op : Operator} {r : R2} (ho : OpR X (inplaceOp op) r) {pins : List (Addr × Obj)} {s : Shared} {σ : St} {H : Hp} {x y : V} {v u : Value} {Q : VK} (I : Inv X pins σ H s)
    (rx : RelV x v) (ry : RelV y u) (q : r x y H Q) : wpAny (model X.prog X.w) X.A (inplaceOp op v u) (EP X pins σ Q) X.xe s := ho pins s σ H x y v u Q I rx ry q

/-! ### ints -/
theorem opI {f : Value → Value → Sem Value} {C : Int → Int → Prop} {g : Int → Int → Int}
    (rule : ∀ (i j : Int) (t u : Tok) (s : Shared) (Q : Value → Shared → Prop) (E : Value → Shared → Prop), C i j → Q (.int (g i j) s.toks) { s with toks := s.toks + 1 } → wpAny (model X.prog X.w) X.A (f (.int i t) (.int j u)) Q E s) :
    OpR X f (rI C fun i j => .int (g i j)) := by
  intro pins s σ H x y v u Q I rx ry h
  obtain ⟨i, j, rfl, rfl, hc, q⟩ := h
  obtain ⟨t, rfl⟩ := rx
  obtain ⟨t', rfl⟩ := ry
  exact rule i j t t' s _ _ hc ⟨.int (g i j), H, I.tok _, ⟨_, rfl⟩, q⟩
theorem opI0 {f : Value → Value → Sem Value} {g : Int → Int → Int}
    (rule : ∀ (i j : Int) (t u : Tok) (s : Shared) (Q : Value → Shared → Prop) (E : Value → Shared → Prop), Q (.int (g i j) s.toks) { s with toks := s.toks + 1 } → wpAny (model X.prog X.w) X.A (f (.int i t) (.int j u)) Q E s) :
    OpR X f (rI0 fun i j => .int (g i j)) := by
  intro pins s σ H x y v u Q I rx ry h
  obtain ⟨i, j, rfl, rfl, q⟩ := h
  obtain ⟨t, rfl⟩ := rx
  obtain ⟨t', rfl⟩ := ry
  exact rule i j t t' s _ _ ⟨.int (g i j), H, I.tok _, ⟨_, rfl⟩, q⟩
theorem opB0 {f : Value → Value → Sem Value} {g : Int → Int → Bool}
    (rule : ∀ (i j : Int) (t u : Tok) (s : Shared) (Q : Value → Shared → Prop) (E : Value → Shared → Prop), Q (.bool (g i j)) s → wpAny (model X.prog X.w) X.A (f (.int i t) (.int j u)) Q E s) :
    OpR X f (rI0 fun i j => .bl (g i j)) := by
  intro pins s σ H x y v u Q I rx ry h
  obtain ⟨i, j, rfl, rfl, q⟩ := h
  obtain ⟨t, rfl⟩ := rx
  obtain ⟨t', rfl⟩ := ry
  exact rule i j t t' s _ _ ⟨.bl (g i j), H, I, rfl, q⟩

def CDiv (i j : Int) : Prop := 0 < j ∧ j < 1073741824
def CDivN (i j : Int) : Prop := j ≠ 0 ∧ j.natAbs < 1073741824
def CPow (i j : Int) : Prop := 0 ≤ j ∧ j ≤ 1000000 ∧ i.natAbs < 2 ^ 64
def CMul (i j : Int) : Prop := (-(2 ^ 64) < i ∧ i < 2 ^ 64) ∨ (-(2 ^ 64) < j ∧ j < 2 ^ 64)
theorem CMul.ok {i j : Int} (h : CMul i j) : IntMulOk i j := by
  rcases h with ⟨h1, h2⟩ | ⟨h1, h2⟩
  · exact .of_left (intBits_le_64 h1 h2)
  · exact .of_right (intBits_le_64 h1 h2)
theorem two_pow_nn (k : Nat) : (0 : Int) ≤ 2 ^ k := by
  rw [two_pow_cast]
  exact Int.natCast_nonneg _

theorem op_add : OpR X (binaryOp .Add) (rI0 fun i j => .int (i + j)) := opI0 fun _ _ _ _ _ _ _ q => add_int q
theorem op_sub : OpR X (binaryOp .Sub) (rI0 fun i j => .int (i - j)) := opI0 fun _ _ _ _ _ _ _ q => sub_int q
theorem op_mul : OpR X (binaryOp .Mult) (rI CMul fun i j => .int (i * j)) := opI fun _ _ _ _ _ _ _ hc q => mul_int q hc.ok
/-- // by a positive divisor -/
theorem op_fdiv : OpR X (binaryOp .FloorDiv) (rI CDiv fun i j => .int (i / j)) := opI fun i j _ _ _ _ _ hc q => by
  have h1 : (0 : Int) < j := hc.1
  have h2 : j < 1073741824 := hc.2
  exact floordiv_int (by omega) (by rw [Int.fdiv_eq_ediv_of_nonneg i (by omega)]; exact q) (.inl (PyProof.noPylong_small (by omega)))
theorem op_fdivN : OpR X (binaryOp .FloorDiv) (rI CDivN fun i j => .int (i.fdiv j)) := opI fun _ _ _ _ _ _ _ hc q => floordiv_int hc.1 q (.inl (PyProof.noPylong_small hc.2))
/-- % by a positive divisor of any size -/
theorem op_mod : OpR X (binaryOp .Mod) (rI (fun _ j => 0 < j) fun i j => .int (i % j)) := opI fun i j _ _ _ _ _ hc q => by
  have h1 : (0 : Int) < j := hc
  exact mod_int' (by omega) (by rw [Int.fmod_eq_emod_of_nonneg i (by omega)]; exact q)
theorem op_modN : OpR X (binaryOp .Mod) (rI (fun _ j => j ≠ 0) fun i j => .int (i.fmod j)) := opI fun _ _ _ _ _ _ _ hc q => mod_int' hc q
theorem op_pow : OpR X (binaryOp .Pow) (rI CPow fun i j => .int (i ^ j.toNat)) := opI fun _ _ _ _ _ _ _ hc q => pow_int_small hc.1 hc.2.1 hc.2.2 q
theorem op_shl : OpR X (binaryOp .LShift) (rI CPow fun i j => .int (i * 2 ^ j.toNat)) := opI fun _ _ _ _ _ _ _ hc q => lshift_int_small hc.1 hc.2.1 hc.2.2 q
theorem op_shr : OpR X (binaryOp .RShift) (rI (fun _ j => 0 ≤ j) fun i j => .int (i / 2 ^ j.toNat)) := opI fun i j _ _ _ _ _ hc q =>
  rshift_int hc (by rw [Int.fdiv_eq_ediv_of_nonneg i (two_pow_nn _)]; exact q)
theorem op_and : OpR X (binaryOp .BitAnd) (rI0 fun i j => .int (Builtin.bitAnd i j)) := opI0 fun _ _ _ _ _ _ _ q => and_int q
theorem op_or : OpR X (binaryOp .BitOr) (rI0 fun i j => .int (Builtin.bitOr i j)) := opI0 fun _ _ _ _ _ _ _ q => or_int q
theorem op_xor : OpR X (binaryOp .BitXor) (rI0 fun i j => .int (Builtin.bitXor i j)) := opI0 fun _ _ _ _ _ _ _ q => xor_int q

theorem iop_add : OpR X (inplaceOp .Add) (rI0 fun i j => .int (i + j)) := opI0 fun _ _ _ _ _ _ _ q => iadd_int q
theorem iop_sub : OpR X (inplaceOp .Sub) (rI0 fun i j => .int (i - j)) := opI0 fun _ _ _ _ _ _ _ q => isub_int q
theorem iop_mul : OpR X (inplaceOp .Mult) (rI CMul fun i j => .int (i * j)) := opI fun _ _ _ _ _ _ _ hc q => imul_int q hc.ok
theorem iop_fdiv : OpR X (inplaceOp .FloorDiv) (rI CDiv fun i j => .int (i / j)) := opI fun i j _ _ _ _ _ hc q => by
  have h1 : (0 : Int) < j := hc.1
  have h2 : j < 1073741824 := hc.2
  exact ifloordiv_int (by omega) (by rw [Int.fdiv_eq_ediv_of_nonneg i (by omega)]; exact q) (.inl (PyProof.noPylong_small (by omega)))
theorem iop_mod : OpR X (inplaceOp .Mod) (rI (fun _ j => 0 < j) fun i j => .int (i % j)) := opI fun i j _ _ _ _ _ hc q => by
  have h1 : (0 : Int) < j := hc
  exact imod_int (by omega) (by rw [Int.fmod_eq_emod_of_nonneg i (by omega)]; exact q)
theorem iop_shl : OpR X (inplaceOp .LShift) (rI CPow fun i j => .int (i * 2 ^ j.toNat)) := opI fun _ _ _ _ _ _ _ hc q => ilshift_int_small hc.1 hc.2.1 hc.2.2 q
theorem iop_shr : OpR X (inplaceOp .RShift) (rI (fun _ j => 0 ≤ j) fun i j => .int (i / 2 ^ j.toNat)) := opI fun i j _ _ _ _ _ hc q =>
  irshift_int hc (by rw [Int.fdiv_eq_ediv_of_nonneg i (two_pow_nn _)]; exact q)
theorem iop_and : OpR X (inplaceOp .BitAnd) (rI0 fun i j => .int (Builtin.bitAnd i j)) := opI0 fun _ _ _ _ _ _ _ q => iand_int q
theorem iop_or : OpR X (inplaceOp .BitOr) (rI0 fun i j => .int (Builtin.bitOr i j)) := opI0 fun _ _ _ _ _ _ _ q => ior_int q
theorem iop_xor : OpR X (inplaceOp .BitXor) (rI0 fun i j => .int (Builtin.bitXor i j)) := opI0 fun _ _ _ _ _ _ _ q => ixor_int q

theorem unI {f : Value → Sem Value} {g : Int → Int}
    (rule : ∀ (i : Int) (t : Tok) (s : Shared) (Q : Value → Shared → Prop) (E : Value → Shared → Prop), Q (.int (g i) s.toks) { s with toks := s.toks + 1 } → wpAny (model X.prog X.w) X.A (f (.int i t)) Q E s) :
    UnR X f (rU fun i => .int (g i)) := by
  intro pins s σ H x v Q I rx h
  obtain ⟨i, rfl, q⟩ := h
  obtain ⟨t, rfl⟩ := rx
  exact rule i t s _ _ ⟨.int (g i), H, I.tok _, ⟨_, rfl⟩, q⟩
theorem un_neg : UnR X (unaryOp .USub) (rU fun i => .int (-i)) := unI fun _ _ _ _ _ q => neg_int q
theorem un_inv : UnR X (unaryOp .Invert) (rU fun i => .int (Builtin.bitNot i)) := unI fun _ _ _ _ _ q => invert_int q

/-! ### bools among ints: n += (a < b) -/
theorem op_add_ib : OpR X (binaryOp .Add) (fun x y H Q => ∃ i k, x = .int i ∧ y = .bl k ∧ Q (.int (i + b2i k)) H) := by
  intro pins s σ H x y v u Q I rx ry h
  obtain ⟨i, k, rfl, rfl, q⟩ := h
  obtain ⟨t, rfl⟩ := rx
  cases ry
  exact add_int_bool ⟨.int (i + b2i k), H, I.tok _, ⟨_, rfl⟩, q⟩
end

/-! ### comparisons -/
/-- the scalars that == tells apart as data does -/
def scal : V → V → Bool
  | .non, .non => true | .non, .int _ => true | .int _, .non => true | .non, .bl _ => true | .bl _, .non => true | .non, .str _ => true | .str _, .non => true
  | .int _, .int _ => true | .bl _, .bl _ => true | .str _, .str _ => true | .byt _, .byt _ => true
  | .int _, .str _ => true | .str _, .int _ => true | .bl _, .str _ => true | .str _, .bl _ => true
  | _, _ => false
def rEq : R2 := fun x y H Q => scal x y = true ∧ Q (.bl (decide (x = y))) H
def rNe : R2 := fun x y H Q => scal x y = true ∧ Q (.bl (!decide (x = y))) H

theorem dec_int {i j : Int} : decide (V.int i = V.int j) = (i == j) := by
  rw [Bool.eq_iff_iff]
  simp
theorem dec_bl {i j : Bool} : decide (V.bl i = V.bl j) = (i == j) := by
  rw [Bool.eq_iff_iff]
  simp
theorem dec_str {i j : Str} : decide (V.str i = V.str j) = (i == j) := by
  rw [Bool.eq_iff_iff]
  simp
theorem dec_byt {i j : Array UInt8} : decide (V.byt i = V.byt j) = (i.toList == j.toList) := by
  rw [Bool.eq_iff_iff]
  cases i
  cases j
  simp

section
variable {X : Cx} {a b c : Expr} {ta tb tc : TE} {pos : Pos}
theorem fin_bl {pins : List (Addr × Obj)} {σ : St} {H : Hp} {s : Shared} {Q : VK} {k k' : Bool} (I : Inv X pins σ H s) (q : Q (.bl k) H) (e : k = k') : EP X pins σ Q (.bool k') s := by
  subst e
  exact ⟨.bl k, H, I, rfl, q⟩
theorem op_eq : OpR X (compareOp .Eq) rEq := by
  intro pins s σ H x y v u Q I rx ry h
  obtain ⟨hs, q⟩ := h
  cases x with
  | non =>
    cases rx
    cases y with
    | non => cases ry; exact PySem.EqNone.eq_none_none (fin_bl I q (by simp))
    | bl j => cases ry; exact PySem.EqNone.eq_none_bool (fin_bl I q (by simp))
    | int j => obtain ⟨t', rfl⟩ := ry; exact PySem.EqNone.eq_none_int (fin_bl I q (by simp))
    | str j => obtain ⟨t', rfl⟩ := ry; exact PySem.EqNone.eq_none_str (fin_bl I q (by simp))
    | _ => exact absurd (show false = true from hs) Bool.false_ne_true
  | bl i =>
    cases rx
    cases y with
    | non => cases ry; exact PySem.EqNone.eq_bool_none (fin_bl I q (by simp))
    | bl j => cases ry; exact eq_bool (fin_bl I q dec_bl)
    | str j => obtain ⟨t', rfl⟩ := ry; exact PySem.EqMixed.eq_bool_str (fin_bl I q (by simp))
    | _ => exact absurd (show false = true from hs) Bool.false_ne_true
  | int i =>
    obtain ⟨t, rfl⟩ := rx
    cases y with
    | non => cases ry; exact PySem.EqNone.eq_int_none (fin_bl I q (by simp))
    | int j => obtain ⟨t', rfl⟩ := ry; exact eq_int (fin_bl I q dec_int)
    | str j => obtain ⟨t', rfl⟩ := ry; exact PySem.EqMixed.eq_int_str (fin_bl I q (by simp))
    | _ => exact absurd (show false = true from hs) Bool.false_ne_true
  | str i =>
    obtain ⟨t, rfl⟩ := rx
    cases y with
    | non => cases ry; exact PySem.EqNone.eq_str_none (fin_bl I q (by simp))
    | bl j => cases ry; exact PySem.EqMixed.eq_str_bool (fin_bl I q (by simp))
    | int j => obtain ⟨t', rfl⟩ := ry; exact PySem.EqMixed.eq_str_int (fin_bl I q (by simp))
    | str j => obtain ⟨t', rfl⟩ := ry; exact eq_str (fin_bl I q dec_str)
    | _ => exact absurd (show false = true from hs) Bool.false_ne_true
  | byt i =>
    obtain ⟨t, rfl⟩ := rx
    cases y with
    | byt j => obtain ⟨t', rfl⟩ := ry; exact PySem.W.eq_bytes (fin_bl I q dec_byt)
    | _ => exact absurd (show false = true from hs) Bool.false_ne_true
  | _ => cases y <;> exact absurd (show false = true from hs) Bool.false_ne_true
theorem op_ne : OpR X (compareOp .NotEq) rNe := by
  intro pins s σ H x y v u Q I rx ry h
  obtain ⟨hs, q⟩ := h
  cases x with
  | non =>
    cases rx
    cases y with
    | non => cases ry; exact PySem.EqNone.ne_none_none (fin_bl I q (by simp))
    | bl j => cases ry; exact PySem.EqNone.ne_none_bool (fin_bl I q (by simp))
    | int j => obtain ⟨t', rfl⟩ := ry; exact PySem.EqNone.ne_none_int (fin_bl I q (by simp))
    | str j => obtain ⟨t', rfl⟩ := ry; exact PySem.EqNone.ne_none_str (fin_bl I q (by simp))
    | _ => exact absurd (show false = true from hs) Bool.false_ne_true
  | bl i =>
    cases rx
    cases y with
    | non => cases ry; exact PySem.EqNone.ne_bool_none (fin_bl I q (by simp))
    | bl j => cases ry; exact ne_bool (fin_bl I q (congrArg not dec_bl))
    | str j => obtain ⟨t', rfl⟩ := ry; exact PySem.EqMixed.ne_bool_str (fin_bl I q (by simp))
    | _ => exact absurd (show false = true from hs) Bool.false_ne_true
  | int i =>
    obtain ⟨t, rfl⟩ := rx
    cases y with
    | non => cases ry; exact PySem.EqNone.ne_int_none (fin_bl I q (by simp))
    | int j => obtain ⟨t', rfl⟩ := ry; exact ne_int (fin_bl I q (congrArg not dec_int))
    | str j => obtain ⟨t', rfl⟩ := ry; exact PySem.EqMixed.ne_int_str (fin_bl I q (by simp))
    | _ => exact absurd (show false = true from hs) Bool.false_ne_true
  | str i =>
    obtain ⟨t, rfl⟩ := rx
    cases y with
    | non => cases ry; exact PySem.EqNone.ne_str_none (fin_bl I q (by simp))
    | bl j => cases ry; exact PySem.EqMixed.ne_str_bool (fin_bl I q (by simp))
    | int j => obtain ⟨t', rfl⟩ := ry; exact PySem.EqMixed.ne_str_int (fin_bl I q (by simp))
    | str j => obtain ⟨t', rfl⟩ := ry; exact ne_str (fin_bl I q (congrArg not dec_str))
    | _ => exact absurd (show false = true from hs) Bool.false_ne_true
  | byt i =>
    obtain ⟨t, rfl⟩ := rx
    cases y with
    | byt j => obtain ⟨t', rfl⟩ := ry; exact PySem.W.ne_bytes (fin_bl I q (congrArg not dec_byt))
    | _ => exact absurd (show false = true from hs) Bool.false_ne_true
  | _ => cases y <;> exact absurd (show false = true from hs) Bool.false_ne_true

theorem op_lt : OpR X (compareOp .Lt) (rI0 fun i j => .bl (decide (i < j))) := opB0 fun _ _ _ _ _ _ _ q => lt_int q
theorem op_le : OpR X (compareOp .LtE) (rI0 fun i j => .bl (decide (i ≤ j))) := opB0 fun _ _ _ _ _ _ _ q => le_int q
theorem op_gt : OpR X (compareOp .Gt) (rI0 fun i j => .bl (decide (j < i))) := opB0 fun _ _ _ _ _ _ _ q => gt_int q
theorem op_ge : OpR X (compareOp .GtE) (rI0 fun i j => .bl (decide (j ≤ i))) := opB0 fun _ _ _ _ _ _ _ q => ge_int q
theorem op_lt_str : OpR X (compareOp .Lt) (fun x y H Q => ∃ i j, x = .str i ∧ y = .str j ∧ Q (.bl (decide (i.cps.toList < j.cps.toList))) H) := by
  intro pins s σ H x y v u Q I rx ry h
  obtain ⟨i, j, rfl, rfl, q⟩ := h
  obtain ⟨t, rfl⟩ := rx
  obtain ⟨t', rfl⟩ := ry
  exact lt_str (fin_bl I q rfl)
/-- the one string within the other -/
theorem op_in_str : OpR X (compareOp .In) (fun x y H Q => ∃ i j, x = .str i ∧ y = .str j ∧ Q (.bl (!(Builtin.Str.occurrences j i 0 j.length 1).isEmpty)) H) := by
  intro pins s σ H x y v u Q I rx ry h
  obtain ⟨i, j, rfl, rfl, q⟩ := h
  obtain ⟨t, rfl⟩ := rx
  obtain ⟨t', rfl⟩ := ry
  exact in_str (fin_bl I q rfl)

/-- is None, is not None: the right side a value none -/
theorem op_isN : OpR X (compareOp .Is) (fun x y H Q => y = .non ∧ Q (.bl (decide (x = .non))) H) := by
  intro pins s σ H x y v u Q I rx ry h
  obtain ⟨rfl, q⟩ := h
  cases ry
  refine is_none_gen (fin_bl I q ?_)
  cases x <;> first
    | (cases rx; rfl)
    | (obtain ⟨t, rfl⟩ := rx; rfl)
theorem op_notN : OpR X (compareOp .IsNot) (fun x y H Q => y = .non ∧ Q (.bl (!decide (x = .non))) H) := by
  intro pins s σ H x y v u Q I rx ry h
  obtain ⟨rfl, q⟩ := h
  cases ry
  refine isnot_none_gen (fin_bl I q ?_)
  cases x <;> first
    | (cases rx; rfl)
    | (obtain ⟨t, rfl⟩ := rx; rfl)

theorem op_notin_str : OpR X (compareOp .NotIn) (fun x y H Q => ∃ i j, x = .str i ∧ y = .str j ∧ Q (.bl (!(!(Builtin.Str.occurrences j i 0 j.length 1).isEmpty))) H) := by
  intro pins s σ H x y v u Q I rx ry h
  obtain ⟨i, j, rfl, rfl, q⟩ := h
  obtain ⟨t, rfl⟩ := rx
  obtain ⟨t', rfl⟩ := ry
  exact notIn_str (fin_bl I q rfl)
/-- is, is not of two objects that are tracked lists or instances -/
def isObj : HO → Bool
  | .lst _ => true
  | .ins _ _ _ => true
  | _ => false
theorem obj_there {pins : List (Addr × Obj)} {s : Shared} {σ : St} {H : Hp} {a : Addr} {o : HO} (I : Inv X pins σ H s) (h : H a = some o) (p : isObj o = true) : ∃ ob, s.heap.get? a = some ob ∧ ob.cls ≠ .type "tuple" := by
  cases o with
  | lst xs =>
    obtain ⟨_, its, n, _, e⟩ : xs.length ≤ sizeLine ∧ ∃ (its : List Value) (n : Nat), Vals xs its ∧ s.heap.get? a = some { cls := .type "list", data := .seq its.toArray n } := I.hok a _ h
    exact ⟨_, e, (by show Value.type "list" ≠ .type "tuple"; decide +kernel)⟩
  | ins C dx fs =>
    have x := I.hok a _ h
    obtain ⟨_, _, _, e, _⟩ := x
    exact ⟨_, e, (by show Value.ref C ≠ .type "tuple"; exact fun z => by cases z)⟩
  | _ => exact absurd (show false = true from p) Bool.false_ne_true
theorem op_is_ref : OpR X (compareOp .Is) (fun x y H Q => ∃ a b oa ob, x = .ref a ∧ y = .ref b ∧ H a = some oa ∧ isObj oa = true ∧ H b = some ob ∧ isObj ob = true ∧ Q (.bl (decide (a = b))) H) := by
  intro pins s σ H x y v u Q I rx ry h
  obtain ⟨a, b, oa, ob, rfl, rfl, ha, pa, hb, pb, q⟩ := h
  cases rx
  cases ry
  obtain ⟨o1, e1, n1⟩ := obj_there I ha pa
  obtain ⟨o2, e2, _⟩ := obj_there I hb pb
  by_cases z : a = b
  · subst z
    exact wpAny_is_ref_self (fin_bl I q (by simp))
  · exact wpAny_is_ref_other z e1 e2 n1 (fin_bl I q (by simp [z]))
theorem op_isnot_ref : OpR X (compareOp .IsNot) (fun x y H Q => ∃ a b oa ob, x = .ref a ∧ y = .ref b ∧ H a = some oa ∧ isObj oa = true ∧ H b = some ob ∧ isObj ob = true ∧ Q (.bl (!decide (a = b))) H) := by
  intro pins s σ H x y v u Q I rx ry h
  obtain ⟨a, b, oa, ob, rfl, rfl, ha, pa, hb, pb, q⟩ := h
  cases rx
  cases ry
  obtain ⟨o1, e1, n1⟩ := obj_there I ha pa
  obtain ⟨o2, e2, _⟩ := obj_there I hb pb
  by_cases z : a = b
  · subst z
    exact wpAny_isNot_ref_self (fin_bl I q (by simp))
  · exact wpAny_isNot_ref_other z e1 e2 n1 (fin_bl I q (by simp [z]))

/-- two rules for one operation: by cases -/
theorem OpR.or {f : Value → Value → Sem Value} {r r' : R2} (h : OpR X f r) (h' : OpR X f r') : OpR X f (fun x y H Q => r x y H Q ∨ r' x y H Q) := by
  intro pins s σ H x y v u Q I rx ry q
  rcases q with q | q
  · exact h pins s σ H x y v u Q I rx ry q
  · exact h' pins s σ H x y v u Q I rx ry q

theorem nomark (b : Expr) {op : CmpOp} (h : op ≠ .In := by decide) (h2 : op ≠ .NotIn := by decide) : behindInMarks op b = false := by
  have e1 : (op == CmpOp.In) = false := by cases op <;> first | rfl | exact absurd rfl h
  have e2 : (op == CmpOp.NotIn) = false := by cases op <;> first | rfl | exact absurd rfl h2
  cases b <;> simp [behindInMarks, e1, e2]
/-- a comparison as a value; hm: nomark b, or (for in, not in) by with_unfolding_all rfl -/
theorem pe_cmpR {op : CmpOp} {r : R2} (ho : OpR X (compareOp op) r) (ha : PE X a ta) (hb : PE X b tb) (hm : behindInMarks op b = false) : PE X (.Compare a [op] [b] pos) (tOp r ta tb) := by
  intro pins s σ H Q I h
  exact wpAny_Compare1 (binT ha hb I h fun v u s2 x y H2 I2 rx ry q => ho pins s2 σ H2 x y v u Q I2 rx ry q) hm
/-- a reading of a value as a test -/
def tTest (t : TE) : TT := fun σ H Q => t σ H fun x H' => ∃ k, x = .bl k ∧ Q k H'
theorem pt_cmpR {op : CmpOp} {r : R2} (ho : OpR X (compareOp op) r) (ha : PE X a ta) (hb : PE X b tb) (hm : behindInMarks op b = false) : PT X (.Compare a [op] [b] pos) (tTest (tOp r ta tb)) := by
  intro pins s σ H Q I h
  refine wpAny_isTrue_Compare1 (thn (ha pins s σ H _ I h) fun v s1 ⟨x, H1, I1, r1, q1⟩ => thn (hb pins s1 σ H1 _ I1 q1) fun u s2 ⟨y, H2, I2, r2, q2⟩ =>
    thn (ho pins s2 σ H2 x y v u _ I2 r1 r2 q2) fun c s3 ⟨z, H3, I3, r3, k, e, q3⟩ => ?_) hm
  subst e
  cases r3
  exact wpAny_truthy_bool ⟨H3, I3, q3⟩
/-- a op1 b op2 c -/
def tChain (r r' : R2) (ta tb tc : TE) : TE := fun σ H Q => ta σ H fun x H1 => tb σ H1 fun y H2 => r x y H2 fun z H3 => ∃ k, z = .bl k ∧
  (if k = true then tc σ H3 fun w' H4 => r' y w' H4 Q else Q (.bl false) H3)
theorem pe_chain {op op' : CmpOp} {r r' : R2} (ho : OpR X (compareOp op) r) (ho' : OpR X (compareOp op') r') (ha : PE X a ta) (hb : PE X b tb) (hc : PE X c tc)
    (hm : lastMarks [op, op'] [b, c] = false := by with_unfolding_all rfl) : PE X (.Compare a [op, op'] [b, c] pos) (tChain r r' ta tb tc) := by
  intro pins s σ H Q I h
  refine Compare_chain (thn (ha pins s σ H _ I h) fun v s1 ⟨x, H1, I1, r1, q1⟩ => chain_link (thn (hb pins s1 σ H1 _ I1 q1) fun u s2 ⟨y, H2, I2, r2, q2⟩ =>
    thn (ho pins s2 σ H2 x y v u _ I2 r1 r2 q2) fun d s3 ⟨z, H3, I3, r3, k, e, q3⟩ => ?_)) hm
  subst e
  cases r3
  refine wpAny_truthy_bool ?_
  cases k with
  | false => exact ite_ff ⟨.bl false, H3, I3, rfl, q3⟩
  | true => exact ite_tt (chain_last (thn (hc pins s3 σ H3 _ I3 q3) fun w' s4 ⟨z', H4, I4, r4, q4⟩ => ho' pins s4 σ H4 y z' u w' Q I4 r2 r4 q4))
theorem pt_chain {op op' : CmpOp} {r r' : R2} (ho : OpR X (compareOp op) r) (ho' : OpR X (compareOp op') r') (ha : PE X a ta) (hb : PE X b tb) (hc : PE X c tc)
    (hm : lastMarks [op, op'] [b, c] = false := by with_unfolding_all rfl) : PT X (.Compare a [op, op'] [b, c] pos) (tTest (tChain r r' ta tb tc)) := by
  intro pins s σ H Q I h
  refine isTrue_chain (thn (ha pins s σ H _ I h) fun v s1 ⟨x, H1, I1, r1, q1⟩ => test_link (thn (hb pins s1 σ H1 _ I1 q1) fun u s2 ⟨y, H2, I2, r2, q2⟩ =>
    thn (ho pins s2 σ H2 x y v u _ I2 r1 r2 q2) fun d s3 ⟨z, H3, I3, r3, k, e, q3⟩ => ?_)) hm
  subst e
  cases r3
  refine wpAny_truthy_bool ?_
  cases k with
  | false =>
    obtain ⟨k', e', q'⟩ := q3
    cases e'
    exact ite_ff ⟨H3, I3, q'⟩
  | true =>
    refine ite_tt (test_last (thn (hc pins s3 σ H3 _ I3 q3) fun w' s4 ⟨z', H4, I4, r4, q4⟩ => thn (ho' pins s4 σ H4 y z' u w' _ I4 r2 r4 q4) fun d' s5 ⟨z2, H5, I5, r5, k2, e2, q5⟩ => ?_))
    subst e2
    cases r5
    exact wpAny_truthy_bool ⟨H5, I5, q5⟩

/-! ### truth -/
/-- a value's truth by the abstract heap -/
def TruV (K : PySem.W.Frag) (x : V) (H : Hp) (k : Bool) : Prop :=
  match x with
  | .non => k = false
  | .bl b => k = b
  | .int i => k = (i != 0)
  | .str y => y.length ≤ sizeLine ∧ k = ((y.length : Int) != 0)
  | .byt y => y.size ≤ sizeLine ∧ k = ((y.size : Int) != 0)
  | .ref p => (∃ xs, SqL K H p xs ∧ k = !xs.isEmpty) ∨ (∃ xs, SqT K H p xs ∧ k = !xs.isEmpty) ∨ ∃ kvs, H p = some (.dK kvs) ∧ k = !kvs.isEmpty
  | _ => False
theorem isEmpty_kv {κ : Type} {kvs : List (κ × V)} {vs : List (κ × Value)} (r : KV kvs vs) : (!vs.isEmpty) = !kvs.isEmpty := by
  cases r <;> rfl
theorem isEmpty_of {xs : List V} {its : List Value} (r : Vals xs its) : (!its.toArray.isEmpty) = !xs.isEmpty := by
  cases r <;> simp
theorem line63 : (sizeLine : Nat) < 2 ^ 63 := by rw [sizeLine_eq]; decide
theorem tru_ok : TruR X (fun x H Q => ∃ k, TruV X.K x H k ∧ Q k H) := by
  intro pins s σ H x v Q I rx h
  obtain ⟨k, e, q⟩ := h
  have hl := line63
  have hs : sizeLine = 16777216 := sizeLine_eq
  cases x with
  | non =>
    cases rx
    have e' : k = false := e
    subst e'
    exact truthy_none ⟨H, I, q⟩
  | bl b =>
    cases rx
    have e' : k = b := e
    subst e'
    exact wpAny_truthy_bool ⟨H, I, q⟩
  | int i =>
    obtain ⟨t, rfl⟩ := rx
    have e' : k = (i != 0) := e
    subst e'
    exact PySem.P.truthy_int ⟨H, I, q⟩
  | str y =>
    obtain ⟨t, rfl⟩ := rx
    obtain ⟨hy, e'⟩ : y.length ≤ sizeLine ∧ k = ((y.length : Int) != 0) := e
    subst e'
    exact PySem.P.truthy_str (by omega) ⟨H, I.tok _, q⟩
  | byt y =>
    obtain ⟨t, rfl⟩ := rx
    obtain ⟨hy, e'⟩ : y.size ≤ sizeLine ∧ k = ((y.size : Int) != 0) := e
    subst e'
    exact PySem.W.truthy_bytes (by omega) ⟨H, I.tok _, q⟩
  | ref p =>
    cases rx
    have e' : (∃ xs, SqL X.K H p xs ∧ k = !xs.isEmpty) ∨ (∃ xs, SqT X.K H p xs ∧ k = !xs.isEmpty) ∨ ∃ kvs, H p = some (.dK kvs) ∧ k = !kvs.isEmpty := e
    rcases e' with ⟨xs, hx, e'⟩ | ⟨xs, hx, e'⟩ | ⟨kvs, hx, e'⟩
    · subst e'
      obtain ⟨its, r, pl, hz⟩ := I.list hx
      have hlen := r.length
      exact wpAny_truthy_list pl.isList (by simp only [List.size_toArray]; omega) ⟨H, I.tok _, by rw [isEmpty_of r]; exact q⟩
    · subst e'
      obtain ⟨its, r, pl, hz⟩ := I.tuple hx
      have hlen := r.length
      exact truthy_tuple pl (by simp only [List.size_toArray]; omega) ⟨H, I.tok _, by rw [isEmpty_of r]; exact q⟩
    · subst e'
      obtain ⟨hz, hS, vs, r, m⟩ : kvs.length ≤ sizeLine ∧ (p == sysModules) = false ∧ ∃ vs, KV kvs vs ∧ s.heap.DictOf (mixKind X.prog X.w) p vs := I.hok p _ hx
      have hlen : kvs.length = vs.length := Paired.length r
      exact wpAny_truthy_dict hS m (by omega) ⟨H, I.tok _, by rw [isEmpty_kv r]; exact q⟩
  | _ => exact (show False from e).elim
/-- any expression whose test is its value's truth (a name, a call, a subscript, a field ..: he by fun _ => rfl) -/
theorem pt_truth (ha : PE X a ta) (he : ∀ whole, isTrue a X.env whole = (do let v ← whole; standAt a.pos; holding [v] (truthy v))) :
    PT X a (fun σ H Q => ta σ H fun x H' => ∃ k, TruV X.K x H' k ∧ Q k H') := by
  intro pins s σ H Q I h
  exact isTrue_plain (thn (ha pins s σ H _ I h) fun v s1 ⟨x, H1, I1, r1, q1⟩ => tru_ok pins s1 σ H1 x v Q I1 r1 q1) (he _)

/-! ### strs and bytes -/
theorem pe_byt {x : List UInt8} {k : Nat} : PE X (.Constant (.bytes x) k pos) (fun _ H Q => Q (.byt x.toArray) H) := fun _ _ _ H _ I h => PySem.W.Constant_bytes ⟨.byt x.toArray, H, I.tok _, ⟨_, rfl⟩, h⟩
theorem op_add_str : OpR X (binaryOp .Add) (fun x y H Q => ∃ i j, x = .str i ∧ y = .str j ∧ i.length + j.length ≤ sizeLine ∧ Q (.str (i ++ j)) H) := by
  intro pins s σ H x y v u Q I rx ry h
  obtain ⟨i, j, rfl, rfl, hz, q⟩ := h
  obtain ⟨t, rfl⟩ := rx
  obtain ⟨t', rfl⟩ := ry
  exact add_str (fun t' tk => ⟨.str (i ++ j), H, I.tok _, ⟨_, rfl⟩, q⟩) hz
theorem iop_add_str : OpR X (inplaceOp .Add) (fun x y H Q => ∃ i j, x = .str i ∧ y = .str j ∧ i.length + j.length ≤ sizeLine ∧ Q (.str (i ++ j)) H) := by
  intro pins s σ H x y v u Q I rx ry h
  obtain ⟨i, j, rfl, rfl, hz, q⟩ := h
  obtain ⟨t, rfl⟩ := rx
  obtain ⟨t', rfl⟩ := ry
  exact iadd_str (fun t' tk => ⟨.str (i ++ j), H, I.tok _, ⟨_, rfl⟩, q⟩) hz
theorem op_add_byt : OpR X (binaryOp .Add) (fun x y H Q => ∃ i j, x = .byt i ∧ y = .byt j ∧ i.size + j.size ≤ 16777216 ∧ Q (.byt (i ++ j)) H) := by
  intro pins s σ H x y v u Q I rx ry h
  obtain ⟨i, j, rfl, rfl, hz, q⟩ := h
  obtain ⟨t, rfl⟩ := rx
  obtain ⟨t', rfl⟩ := ry
  exact PySem.W.KBy.add_bytes hz (fun t' tk => ⟨.byt (i ++ j), H, I.tok _, ⟨_, rfl⟩, q⟩)

def PlainIxT (b : Expr) : Prop := ∀ o i, subscripted b false o i = operate [o, i] (getItem o i)
/-- s[i], 0 ≤ i < len -/
theorem pe_item_str (ha : PE X a ta) (hb : PE X b tb) (hs : PlainIxT b) :
    PE X (.Subscript a b pos) (tOp (fun x y H Q => ∃ z i c, x = .str z ∧ y = .int i ∧ 0 ≤ i ∧ i < 2 ^ 63 ∧ i < z.length ∧ z.cps[i.toNat]? = some c ∧ Q (.str ⟨#[c]⟩) H) ta tb) := by
  intro pins s σ H Q I h
  refine Subscript_ (binT ha hb I h fun v u s2 x y H2 I2 rx ry q => ?_)
  obtain ⟨z, i, c, rfl, rfl, h0, h63, h1, hc, q⟩ := q
  obtain ⟨t, rfl⟩ := rx
  obtain ⟨t', rfl⟩ := ry
  have e : seqIndex? i z.length = some i.toNat := PySem.StrLaws.seqIndex_nonneg h0 h1
  exact tail_any (typeIs_str s2 z t) slot_str_getitem.lookup (getItem_str (c := c) (by
    have e1 : decide (i < -(2 ^ 63 : Int)) = false := decide_eq_false (by omega)
    have e2 : decide (i ≥ 2 ^ 63) = false := decide_eq_false (by omega)
    rw [e1, e2] <;> rfl) (by rw [e]; exact hc) ⟨.str ⟨#[c]⟩, H2, I2.tok _, ⟨_, rfl⟩, q⟩) (hs _ _)
/-- b[i], 0 ≤ i < len -/
theorem pe_item_byt (ha : PE X a ta) (hb : PE X b tb) (hs : PlainIxT b) :
    PE X (.Subscript a b pos) (tOp (fun x y H Q => ∃ (z : List UInt8) (i : Int), x = .byt z.toArray ∧ y = .int i ∧ z.length ≤ sizeLine ∧ 0 ≤ i ∧ i < z.length ∧ Q (.int ((z.getD i.toNat 0).toNat : Nat)) H) ta tb) := by
  intro pins s σ H Q I h
  refine Subscript_ (binT ha hb I h fun v u s2 x y H2 I2 rx ry q => ?_)
  obtain ⟨z, i, rfl, rfl, hz, h0, h1, q⟩ := q
  obtain ⟨t, rfl⟩ := rx
  obtain ⟨t', rfl⟩ := ry
  have hl : sizeLine = 16777216 := sizeLine_eq
  exact tail_any (PySem.W.typeIs_bytes s2 z.toArray t) PySem.W.FB.slot_bytes_getitem.lookup (PySem.W.getItem_bytes (by omega) h0 h1 ⟨.int ((z.getD i.toNat 0).toNat : Nat), H2, I2.tok _, ⟨_, rfl⟩, q⟩) (hs _ _)

/-! ### scalar builtins, by CallR -/
theorem vals1 {x : V} {us : List Value} (r : Vals [x] us) : ∃ u, us = [u] ∧ RelV x u := by
  cases r with
  | cons r1 r2 => cases r2; exact ⟨_, rfl, r1⟩
theorem vals2 {x y : V} {us : List Value} (r : Vals [x, y] us) : ∃ u w', us = [u, w'] ∧ RelV x u ∧ RelV y w' := by
  cases r with
  | cons r1 r2 =>
    cases r2 with
    | cons r3 r4 => cases r4; exact ⟨_, _, rfl, r1, r3⟩
theorem call_abs : CallR X (.builtin "abs") (fun xs H Q => ∃ i, xs = [.int i] ∧ Q (.int (if i < 0 then -i else i)) H) := by
  intro pins s σ H xs us Q I r h
  obtain ⟨i, rfl, q⟩ := h
  obtain ⟨u, rfl, t, rfl⟩ := vals1 r
  exact call_abs_int fun u tk => ⟨.int (if i < 0 then -i else i), H, I.tok _, ⟨_, rfl⟩, q⟩
theorem call_max2 (hc : X.calm = true) : CallR X (.builtin "max") (fun xs H Q => ∃ i j, xs = [.int i, .int j] ∧ Q (.int (if j > i then j else i)) H) := by
  intro pins s σ H xs us Q I r h
  obtain ⟨i, j, rfl, q⟩ := h
  obtain ⟨u, w', rfl, ⟨t, rfl⟩, ⟨t', rfl⟩⟩ := vals2 r
  refine max_two_ints (I.ok.hd hc) fun h' tk k => ⟨_, H, I.kept k, ?_, q⟩
  by_cases hj : j > i
  · rw [if_pos hj, if_pos hj]; exact ⟨_, rfl⟩
  · rw [if_neg hj, if_neg hj]; exact ⟨_, rfl⟩
theorem call_min2 (hc : X.calm = true) : CallR X (.builtin "min") (fun xs H Q => ∃ i j, xs = [.int i, .int j] ∧ Q (.int (if j < i then j else i)) H) := by
  intro pins s σ H xs us Q I r h
  obtain ⟨i, j, rfl, q⟩ := h
  obtain ⟨u, w', rfl, ⟨t, rfl⟩, ⟨t', rfl⟩⟩ := vals2 r
  refine min_two_ints (I.ok.hd hc) fun h' tk k => ⟨_, H, I.kept k, ?_, q⟩
  by_cases hj : j < i
  · rw [if_pos hj, if_pos hj]; exact ⟨_, rfl⟩
  · rw [if_neg hj, if_neg hj]; exact ⟨_, rfl⟩
theorem call_int1 : CallR X (.type "int") (fun xs H Q => (∃ i, xs = [.int i] ∧ Q (.int i) H) ∨ ∃ k, xs = [.bl k] ∧ Q (.int (if k then 1 else 0)) H) := by
  intro pins s σ H xs us Q I r h
  rcases h with ⟨i, rfl, q⟩ | ⟨k, rfl, q⟩
  · obtain ⟨u, rfl, t, rfl⟩ := vals1 r
    exact call_int_int ⟨.int i, H, I, ⟨_, rfl⟩, q⟩
  · obtain ⟨u, rfl, r1⟩ := vals1 r
    cases r1
    exact call_int_bool ⟨.int (if k then 1 else 0), H, I.tok _, ⟨_, rfl⟩, q⟩
theorem call_bool1 : CallR X (.type "bool") (fun xs H Q => (∃ i, xs = [.int i] ∧ Q (.bl (i != 0)) H) ∨ ∃ k, xs = [.bl k] ∧ Q (.bl k) H) := by
  intro pins s σ H xs us Q I r h
  rcases h with ⟨i, rfl, q⟩ | ⟨k, rfl, q⟩
  · obtain ⟨u, rfl, t, rfl⟩ := vals1 r
    exact call_bool_int ⟨.bl (i != 0), H, I, rfl, q⟩
  · obtain ⟨u, rfl, r1⟩ := vals1 r
    cases r1
    exact call_bool_bool ⟨.bl k, H, I, rfl, q⟩
theorem call_str_int : CallR X (.type "str") (fun xs H Q => ∃ i, xs = [.int i] ∧ i.natAbs.log2 < 1920 ∧ Q (.str (toString i)) H) := by
  intro pins s σ H xs us Q I r h
  obtain ⟨i, rfl, hz, q⟩ := h
  obtain ⟨u, rfl, t, rfl⟩ := vals1 r
  exact PySem.P.str_of_int hz ⟨.str _, H, I.tok _, ⟨_, rfl⟩, q⟩
theorem call_ord : CallR X (.builtin "ord") (fun xs H Q => ∃ x, xs = [.str x] ∧ x.length = 1 ∧ Q (.int (x.cps.getD 0 0 : Nat)) H) := by
  intro pins s σ H xs us Q I r h
  obtain ⟨x, rfl, hz, q⟩ := h
  obtain ⟨u, rfl, t, rfl⟩ := vals1 r
  exact ord_of_one hz ⟨.int _, H, I.tok _, ⟨_, rfl⟩, q⟩
theorem call_chr : CallR X (.builtin "chr") (fun xs H Q => ∃ i, xs = [.int i] ∧ 0 ≤ i ∧ i ≤ 1114111 ∧ Q (.str ⟨#[i.toNat]⟩) H) := by
  intro pins s σ H xs us Q I r h
  obtain ⟨i, rfl, h0, h1, q⟩ := h
  obtain ⟨u, rfl, t, rfl⟩ := vals1 r
  exact chr_of_range h0 h1 ⟨.str _, H, I.tok _, ⟨_, rfl⟩, q⟩
/-- len of a str, a bytes, a list, a tuple -/
def LenV (K : PySem.W.Frag) (x : V) (H : Hp) (n : Nat) : Prop :=
  match x with
  | .str y => y.length ≤ sizeLine ∧ n = y.length
  | .byt y => y.size ≤ sizeLine ∧ n = y.size
  | .ref p => (∃ xs, SqL K H p xs ∧ n = xs.length) ∨ ∃ xs, SqT K H p xs ∧ n = xs.length
  | _ => False
theorem call_len : CallR X (.builtin "len") (fun xs H Q => ∃ x n, xs = [x] ∧ LenV X.K x H n ∧ Q (.int n) H) := by
  intro pins s σ H xs us Q I r h
  obtain ⟨x, n, rfl, e, q⟩ := h
  obtain ⟨u, rfl, rx⟩ := vals1 r
  have hl := line63
  have hs : sizeLine = 16777216 := sizeLine_eq
  cases x with
  | str y =>
    obtain ⟨t, rfl⟩ := rx
    obtain ⟨hy, e'⟩ : y.length ≤ sizeLine ∧ n = y.length := e
    subst e'
    exact len_str (by omega) ⟨.int _, H, I.tok _, ⟨_, rfl⟩, q⟩
  | byt y =>
    obtain ⟨t, rfl⟩ := rx
    obtain ⟨hy, e'⟩ : y.size ≤ sizeLine ∧ n = y.size := e
    subst e'
    exact PySem.W.len_bytes (by omega) ⟨.int _, H, I.tok _, ⟨_, rfl⟩, q⟩
  | ref p =>
    cases rx
    have e' : (∃ xs, SqL X.K H p xs ∧ n = xs.length) ∨ ∃ xs, SqT X.K H p xs ∧ n = xs.length := e
    rcases e' with ⟨xs, hx, e'⟩ | ⟨xs, hx, e'⟩
    · subst e'
      obtain ⟨its, r', pl, hz⟩ := I.list hx
      have hlen := r'.length
      exact Calls.call_len_list pl.isList (by simp only [List.size_toArray]; omega) ⟨.int xs.length, H, I.tok _, ⟨_, by simp only [List.size_toArray]; rw [hlen]⟩, q⟩
    · subst e'
      obtain ⟨its, r', pl, hz⟩ := I.tuple hx
      have hlen := r'.length
      exact len_tuple pl (by simp only [List.size_toArray]; omega) ⟨.int xs.length, H, I.tok _, ⟨_, by simp only [List.size_toArray]; rw [hlen]⟩, q⟩
  | _ => exact (show False from e).elim
/-- divmod: a new tuple -/
theorem call_divmod : CallR X (.builtin "divmod") (fun xs H Q => ∃ i j, xs = [.int i, .int j] ∧ CDiv i j ∧ ∀ p, H p = none → Q (.ref p) (upd H p (.tup [.int (i / j), .int (i % j)]))) := by
  intro pins s σ H xs us Q I r h
  obtain ⟨i, j, rfl, ⟨h1, h2⟩, q⟩ := h
  obtain ⟨u, w', rfl, ⟨t, rfl⟩, ⟨t', rfl⟩⟩ := vals2 r
  refine divmod_int (by omega) ?_ (.inl (PyProof.noPylong_small (by omega)))
  rw [Int.fdiv_eq_ediv_of_nonneg i (by omega), Int.fmod_eq_emod_of_nonneg i (by omega)]
  have hn : H s.heap.objs.size = none := I.hok.fresh (Nat.le_refl _)
  refine ⟨.ref s.heap.objs.size, _, ?_, rfl, q _ hn⟩
  refine I.laid (fun b o e => Heap.get?_push_of_some _ e) (Nat.le_refl _) ⟨by simp only [List.length_cons, List.length_nil]; rw [sizeLine_eq]; decide, [.int (i / j) s.toks, .int (i % j) (s.toks + 1)], .cons ⟨_, rfl⟩ (.cons ⟨_, rfl⟩ .nil), ?_⟩
  exact ⟨_, Heap.get?_push_size s.heap rfl, rfl, 0, rfl⟩
end
end L2

namespace L2
open PySem PySem.Spec PyProof.Rows

/-! ### an instance, its attributes a map -/
structure ObjM (h : Heap) (x dx C : Addr) (mA : Str → Option Value) : Prop where
  obj : h.get? x = some (PySem.W.instObj C dx)
  ns : h.Ns1 dx mA
  ne : dx ≠ x

theorem lookIn_ns {h : Heap} {dx : Addr} {mA : Str → Option Value} (n : h.Ns1 dx mA) : ∃ od, h.get? dx = some od ∧ ∀ name, PySem.W.lookIn name od = some (mA name) := by
  obtain ⟨o, es, ep, ho, hd, hk, _, hm⟩ := n
  refine ⟨o, ho, fun name => ?_⟩
  have e := hm name
  unfold nsFind findBy at e
  rw [← Array.find?_toList] at e
  unfold PySem.W.lookIn
  rw [hd]
  dsimp only
  split
  · rename_i y q
    rw [q] at e
    exact congrArg some e
  · rename_i q
    rw [q] at e
    have a : es.toList.any (·.refKey) = false := by
      rw [List.any_eq_false]
      intro y hy
      obtain ⟨z, t, hkey⟩ := hk y (Array.mem_toList_iff.mp hy)
      simp [DictEntry.refKey, hkey]
    have a' : ¬ es.toList.any (·.refKey) = true := by rw [a]; exact Bool.false_ne_true
    rw [if_neg a']
    exact congrArg some e

theorem ObjM.look {h : Heap} {x dx C : Addr} {mA : Str → Option Value} (I : ObjM h x dx C mA) : ∃ od, PySem.W.InstAt h x (PySem.W.instObj C dx) C (some od) ∧ ∀ name, PySem.W.lookIn name od = some (mA name) :=
  let ⟨od, ho, hl⟩ := lookIn_ns I.ns
  ⟨od, ⟨I.obj, rfl, rfl, ho⟩, hl⟩

section
variable {prog : Program} {w : World} {A : Around} {E : Value → Shared → Prop} {s : Shared} {K : PySem.W.Frag} {x dx C f : Addr} {mA : Str → Option Value} {name : Str} {v : Value}

theorem get_map {expr : Bool} {Q : Value → Shared → Prop} (X : K.In s.heap) (I : ObjM s.heap x dx C mA) (hg : PySem.W.plainGet K C name = true) (hh : PySem.W.hasDictIn K C = true)
    (ha : PySem.W.findIn K (.ref C) name = some none) (hv : mA name = some v) (hv' : PySem.W.handedIn v = true) (h : Q v { s with toks := s.toks + 1 }) :
    wpAny (model prog w) A (getAttr (.ref x) name expr) Q E s := by
  obtain ⟨od, J, hl⟩ := I.look
  exact PySem.W.get_value X J (PySem.W.plainGet_of hg).1 (PySem.W.findObj_own hh ha rfl (by rw [hl, hv])) hv' h

theorem get_const {expr : Bool} {a : Value} {Q : Value → Shared → Prop} (X : K.In s.heap) (I : ObjM s.heap x dx C mA) (hg : PySem.W.plainGet K C name = true) (hh : PySem.W.hasDictIn K C = true)
    (ha : PySem.W.findIn K (.ref C) name = some (some a)) (hn : PySem.W.specialIn K a "__get__" = some none) (hc : PySem.W.copiedNames.contains name = false) (hv : mA name = none) (hv' : PySem.W.handedIn a = true)
    (h : Q a { s with toks := s.toks + 1 }) : wpAny (model prog w) A (getAttr (.ref x) name expr) Q E s := by
  obtain ⟨od, J, hl⟩ := I.look
  exact PySem.W.get_value X J (PySem.W.plainGet_of hg).1 (PySem.W.findObj_cls hh ha hn hv' hc (by rw [hl, hv])) hv' h

theorem get_meth {pl : Sem Bool} {Q : Value × List Value → Shared → Prop} (X : K.In s.heap) (I : ObjM s.heap x dx C mA) (hg : PySem.W.plainGet K C name = true)
    (hf : PySem.W.findIn K (.ref C) name = some (some (.ref f))) (ht : PySem.W.isFn K (.ref f) = true) (hv : mA name = none) (h : Q (.ref f, [.ref x]) s) :
    wpAny (model prog w) A (getMethod (.ref x) name pl) Q E s := by
  obtain ⟨od, J, hl⟩ := I.look
  exact PySem.W.method_fn X J (PySem.W.plainGet_of hg).1 (PySem.W.plainGet_of hg).2 hf (beq_iff_eq.mp ht) (by show (PySem.W.lookIn name od).map (·.isSome) = some false; rw [hl, hv]; rfl) h

theorem set_map {ns : List Str} {Q : Unit → Shared → Prop} (X : K.In s.heap) (I : ObjM s.heap x dx C mA)
    (hs : PySem.W.findIn K (.ref C) "__setattr__" = some (some (.builtin "object.__setattr__"))) (hp : PySem.W.plainOver K C = true) (ht : PySem.W.takerIn K C name = some none) (hh : PySem.W.hasDictIn K C = true)
    (hw : PySem.Within mA ns) (hsz : ns.length ≤ sizeLine)
    (h : ∀ h', ObjM h' x dx C (fun y => if y = name then some v else mA y) → Heap.SameBut dx s.heap h' → Q () { s with heap := h', toks := s.toks + 2 }) :
    wpAny (model prog w) A (setAttr (.ref x) name v) Q E s := by
  obtain ⟨od, J, hl⟩ := I.look
  refine PySem.W.set_plain X J hs (PySem.W.osa_open (s := { s with toks := s.toks + 1 }) (r := none) X J hp ht fun b => ?_)
  obtain ⟨cd, hc, hd'⟩ := PySem.W.any_some hh
  have hx : s.heap.get? x = some ⟨.ref C, some dx, .plain, #[]⟩ := I.obj
  refine wpAny_bind (wpAny_pure (wpAny_bind (wpAny_bind (wpAny_loadPart hx (wpAny_bind (PySem.W.Looks.here (s := { s with toks := s.toks + 1 }) (PySem.W.looks_clsIn X hc) ?_))))))
  rw [hd']
  refine wpAny_pure (a := some dx) (wpAny_bind (wpAny_pure (wpAny_bind ?_)))
  refine wpAny_nsSet1 (s := { s with toks := s.toks + 1 }) I.ns fun h' hn2 hs2 => ?_
  obtain ⟨oD, esD, epD, hoD, hdD, hcD⟩ := hn2.count (PySem.Within.cons name v hw)
  refine wpAny_bind (wpAny_lookBehind hoD (by rw [hdD]; exact pastItsLine_dict (Nat.le_trans hcD (by rw [List.length_cons]; omega))) ?_)
  exact wpAny_pure (h _ ⟨(hs2.2 _ (Ne.symm I.ne)).trans I.obj, hn2, I.ne⟩ hs2)

/-- C(..): the dict at the heap's end, the instance behind it; then its __init__ -/
theorem make_map {R : Result → Shared → Prop} {vs : List Value} {kw : List (Str × Value)} (X : K.In s.heap) (hm : PySem.W.makesIn K C = true)
    (hi : PySem.W.findIn K (.ref C) "__init__" = some (some (.ref f))) (hf : PySem.W.typeIn K (.ref f) = some (.type "function"))
    (h : codeAny (model prog w) (A.under (.builtin "type.__call__" ⟨.ref C :: vs, kw⟩)) (.call (.ref f) ⟨.ref (s.heap.objs.size + 1) :: vs, kw⟩) (PySem.W.InitBack (s.heap.objs.size + 1) R)
      { s with heap := (s.heap.push PySem.W.emptyDict).push (PySem.W.instObj C s.heap.objs.size) }) :
    codeAny (model prog w) A (.call (.ref C) ⟨vs, kw⟩) R s := by
  obtain ⟨hh, g, d, t, os⟩ := s
  exact PySem.W.make_core (PySem.W.makes_of X hm) (PySem.W.looks_findIn X hi) (fun self => PySem.W.bind_fn X self hf) (.inl rfl) h
/-- C() where there is no __init__ but object's -/
theorem make_map0 {R : Result → Shared → Prop} (X : K.In s.heap) (hm : PySem.W.makesIn K C = true)
    (hi : PySem.W.findIn K (.ref C) "__init__" = some (some (.builtin "object.__init__")))
    (hb : ∀ self, PySem.W.Looks (model prog w) s.heap (bindSpecial (.builtin "object.__init__") self) (.builtin "object.__init__", [self]))
    (h : codeAny (model prog w) (A.under (.builtin "type.__call__" ⟨[.ref C], []⟩)) (.call (.builtin "object.__init__") ⟨[.ref (s.heap.objs.size + 1)], []⟩) (PySem.W.InitBack (s.heap.objs.size + 1) R)
      { s with heap := (s.heap.push PySem.W.emptyDict).push (PySem.W.instObj C s.heap.objs.size) }) :
    codeAny (model prog w) A (.call (.ref C) ⟨[], []⟩) R s := by
  obtain ⟨hh, g, d, t, os⟩ := s
  exact PySem.W.make_core (PySem.W.makes_of X hm) (PySem.W.looks_findIn X hi) hb (.inr ⟨rfl, rfl⟩) h
end

/-! ### the attributes as a list of pairs -/
def putF (f : Str) (v : V) : List (Str × V) → List (Str × V)
  | [] => [(f, v)]
  | (g, x) :: r => if g = f then (g, v) :: r else (g, x) :: putF f v r
theorem lookup_putF (f g : Str) (v : V) : ∀ fs : List (Str × V), (putF f v fs).lookup g = if g = f then some v else fs.lookup g
  | [] => by
    show List.lookup g [(f, v)] = _
    by_cases h : g = f
    · have hb : (g == f) = true := beq_iff_eq.mpr h
      simp only [List.lookup, hb, if_pos h]
    · have hb : (g == f) = false := beq_eq_false_iff_ne.mpr h
      simp only [List.lookup, hb, if_neg h]
  | (k, x) :: r => by
    have ih := lookup_putF f g v r
    rw [show putF f v ((k, x) :: r) = (if k = f then (k, v) :: r else (k, x) :: putF f v r) from rfl]
    by_cases hk : k = f
    · rw [if_pos hk]
      by_cases h : g = k
      · have hb : (g == k) = true := beq_iff_eq.mpr h
        simp only [List.lookup, hb, if_pos (h.trans hk)]
      · have hb : (g == k) = false := beq_eq_false_iff_ne.mpr h
        simp only [List.lookup, hb, if_neg (fun e : g = f => h (e.trans hk.symm))]
    · rw [if_neg hk]
      by_cases h : g = k
      · have hb : (g == k) = true := beq_iff_eq.mpr h
        simp only [List.lookup, hb, if_neg (fun e : g = f => hk (h.symm.trans e))]
      · have hb : (g == k) = false := beq_eq_false_iff_ne.mpr h
        simp only [List.lookup, hb]
        exact ih
theorem keys_putF (f : Str) (v : V) : ∀ fs : List (Str × V), f ∈ (putF f v fs).map (·.1) ∧ ∀ g, g ∈ fs.map (·.1) → g ∈ (putF f v fs).map (·.1)
  | [] => ⟨by simp [putF], fun g h => by simp at h⟩
  | (k, x) :: r => by
    obtain ⟨i1, i2⟩ := keys_putF f v r
    rw [show putF f v ((k, x) :: r) = (if k = f then (k, v) :: r else (k, x) :: putF f v r) from rfl]
    by_cases hk : k = f
    · rw [if_pos hk]
      subst hk
      exact ⟨by simp, fun g h => by simpa using h⟩
    · rw [if_neg hk]
      refine ⟨?_, fun g h => ?_⟩
      · rw [List.map_cons]
        exact List.mem_cons_of_mem _ i1
      · rw [List.map_cons] at h ⊢
        rcases List.mem_cons.mp h with e | e
        · exact List.mem_cons.mpr (.inl e)
        · exact List.mem_cons_of_mem _ (i2 g e)
theorem length_putF (f : Str) (v : V) : ∀ fs : List (Str × V), (putF f v fs).length ≤ fs.length + 1
  | [] => by simp [putF]
  | (k, x) :: r => by
    have ih := length_putF f v r
    rw [show putF f v ((k, x) :: r) = (if k = f then (k, v) :: r else (k, x) :: putF f v r) from rfl]
    by_cases hk : k = f
    · rw [if_pos hk, List.length_cons, List.length_cons]; omega
    · rw [if_neg hk, List.length_cons, List.length_cons]; omega

theorem RelO.some_of {v : V} {o : Option Value} (r : RelO (some v) o) : ∃ u, o = some u ∧ RelV v u := by
  cases o with
  | none => exact (show False from r).elim
  | some u => exact ⟨u, rfl, r⟩
theorem RelO.none_of {o : Option Value} (r : RelO none o) : o = none := by
  cases o with
  | none => rfl
  | some u => exact (show False from r).elim
theorem handed_of {v : V} {u : Value} (r : RelV v u) : PySem.W.handedIn u = true := by
  cases v with
  | non => cases (show u = Value.none from r); rfl
  | bl b => cases (show u = Value.bool b from r); rfl
  | int i => obtain ⟨t, e⟩ := (show ∃ t, u = Value.int i t from r); cases e; rfl
  | str x => obtain ⟨t, e⟩ := (show ∃ t, u = Value.str x t from r); cases e; rfl
  | byt b => obtain ⟨t, e⟩ := (show ∃ t, u = Value.bytes b t from r); cases e; rfl
  | flt b => obtain ⟨t, e⟩ := (show ∃ t, u = Value.float b t from r); cases e; rfl
  | ref a => cases (show u = Value.ref a from r); rfl
  | ty n => cases (show u = Value.type n from r); rfl

section
variable {P : Program} {w : World} {H H' : Hp} {h h' : Heap} {a C dx : Addr} {fs fs' : List (Str × V)}
theorem ins_get (hok : HOk P w H h) (e : H a = some (.ins C dx fs)) : ∃ mA, ObjM h a dx C mA ∧ (∀ f, RelO (fs.lookup f) (mA f)) ∧ PySem.Within mA (fs.map (·.1)) ∧ fs.length ≤ 1000 ∧ H dx = some (.own a) := by
  obtain ⟨d, z, ne, ob, mA, n, r, q⟩ := (show ObjOk P w H h a (.ins C dx fs) from hok a _ e)
  exact ⟨mA, ⟨ob, n, ne⟩, r, q, z, d⟩
end

/-! ### what of the text a class must have -/
structure Cls (K : PySem.W.Frag) (C : Addr) : Prop where
  pg : PySem.W.plainGet K C Str.empty = true
  hd : PySem.W.hasDictIn K C = true
  po : PySem.W.plainOver K C = true
  sa : PySem.W.findIn K (.ref C) "__setattr__" = some (some (.builtin "object.__setattr__"))
theorem Cls.get {K : PySem.W.Frag} {C : Addr} (c : Cls K C) (f : Str) : PySem.W.plainGet K C f = true := c.pg
/-- no class of it has the name -/
def NoAttr (K : PySem.W.Frag) (C : Addr) (f : Str) : Prop := PySem.W.findIn K (.ref C) f = some none
theorem NoAttr.taker {K : PySem.W.Frag} {C : Addr} {f : Str} (n : NoAttr K C f) : PySem.W.takerIn K C f = some none := by
  unfold PySem.W.takerIn
  rw [show PySem.W.findIn K (.ref C) f = some none from n]
  rfl
/-- a constant of the class -/
structure Con (K : PySem.W.Frag) (C : Addr) (f : Str) (v : V) (u : Value) : Prop where
  at_ : PySem.W.findIn K (.ref C) f = some (some u)
  rel : RelV v u
  get : PySem.W.specialIn K u "__get__" = some none
  cp : PySem.W.copiedNames.contains f = false
/-- a method: a plain def of the class or of one above it -/
structure Meth (K : PySem.W.Frag) (C : Addr) (m : Str) (f : Addr) : Prop where
  at_ : PySem.W.findIn K (.ref C) m = some (some (.ref f))
  fn : PySem.W.isFn K (.ref f) = true
  kp : PySem.W.keepIn K (.ref f) = true

section
variable {X : Cx} {pins : List (Addr × Obj)} {σ : St} {H : Hp} {s : Shared} {a C dx : Addr} {fs : List (Str × V)} {f : Str} {v : V} {A : Around} {E : Value → Shared → Prop}

theorem getattr_ok {b : Bool} {Q : Value → Shared → Prop} (I : Inv X pins σ H s) (e : H a = some (.ins C dx fs)) (c : Cls X.K C) (n : NoAttr X.K C f) (l : fs.lookup f = some v)
    (h : ∀ u s', Inv X pins σ H s' → RelV v u → Q u s') : wpAny (model X.prog X.w) A (getAttr (.ref a) f b) Q E s := by
  obtain ⟨mA, O, r, _, _, _⟩ := ins_get I.hok e
  obtain ⟨u, hu, ru⟩ := RelO.some_of (v := v) (o := mA f) (by rw [← l]; exact r f)
  exact get_map I.kIn O (c.get f) c.hd n hu (handed_of ru) (h u _ (I.tok _) ru)

theorem getcon_ok {b : Bool} {u : Value} {Q : Value → Shared → Prop} (I : Inv X pins σ H s) (e : H a = some (.ins C dx fs)) (c : Cls X.K C) (k : Con X.K C f v u) (l : fs.lookup f = none)
    (h : ∀ s', Inv X pins σ H s' → Q u s') : wpAny (model X.prog X.w) A (getAttr (.ref a) f b) Q E s := by
  obtain ⟨mA, O, r, _, _, _⟩ := ins_get I.hok e
  have hn : mA f = none := RelO.none_of (by rw [← l]; exact r f)
  exact get_const I.kIn O (c.get f) c.hd k.at_ k.get k.cp hn (handed_of k.rel) (h _ (I.tok _))

theorem getmeth_ok {m : Str} {g : Addr} {pl : Sem Bool} {Q : Value × List Value → Shared → Prop} (I : Inv X pins σ H s) (e : H a = some (.ins C dx fs)) (c : Cls X.K C) (k : Meth X.K C m g) (l : fs.lookup m = none)
    (h : Q (.ref g, [.ref a]) s) : wpAny (model X.prog X.w) A (getMethod (.ref a) m pl) Q E s := by
  obtain ⟨mA, O, r, _, _, _⟩ := ins_get I.hok e
  have hn : mA m = none := RelO.none_of (by rw [← l]; exact r m)
  exact get_meth I.kIn O (c.get m) k.at_ k.fn hn h

theorem setattr_ok {y : V} {u : Value} {Q : Unit → Shared → Prop} (I : Inv X pins σ H s) (e : H a = some (.ins C dx fs)) (c : Cls X.K C) (n : NoAttr X.K C f) (hl : fs.length < 1000) (ry : RelV y u)
    (h : ∀ s', Inv X pins σ (upd H a (.ins C dx (putF f y fs))) s' → Q () s') : wpAny (model X.prog X.w) A (setAttr (.ref a) f u) Q E s := by
  obtain ⟨mA, O, r, wi, _, ho⟩ := ins_get I.hok e
  have hz : (fs.map (·.1)).length ≤ sizeLine := by rw [List.length_map, sizeLine_eq]; omega
  refine set_map I.kIn O c.sa c.po n.taker c.hd wi hz fun h' O' sb => h _ ?_
  have hd : ∃ o, h'.get? dx = some o := let ⟨o, _, _, e', _⟩ := O'.ns; ⟨o, e'⟩
  refine I.write (x := a) (e := dx) (by rw [e]; exact True.intro) (.inr ho) (fun b q hb z => (sb.2 b hb).trans z) hd ?_
  refine ⟨by rw [upd_ne O.ne]; exact ho, ?_, O.ne, O'.obj, _, O'.ns, fun g => ?_, fun g hg => ?_⟩
  · have := length_putF f y fs; omega
  · show RelO ((putF f y fs).lookup g) (if g = f then some u else mA g)
    rw [lookup_putF]
    by_cases q : g = f
    · rw [if_pos q, if_pos q]; exact ry
    · rw [if_neg q, if_neg q]; exact r g
  · by_cases q : g = f
    · rw [q]; exact (keys_putF f y fs).1
    · refine (keys_putF f y fs).2 g (wi g fun z => hg ?_)
      show (if g = f then some u else mA g) = none
      rw [if_neg q]; exact z

/-- a new instance, tracked, without attributes -/
theorem Inv.made (I : Inv X pins σ H s) : Inv X pins σ (upd (upd H s.heap.objs.size (.own (s.heap.objs.size + 1))) (s.heap.objs.size + 1) (.ins C s.heap.objs.size []))
    { s with heap := (s.heap.push PySem.W.emptyDict).push (PySem.W.instObj C s.heap.objs.size) } := by
  have e1 : (s.heap.push PySem.W.emptyDict).get? s.heap.objs.size = some PySem.W.emptyDict := Heap.get?_push_size s.heap rfl
  have e2 : ((s.heap.push PySem.W.emptyDict).push (PySem.W.instObj C s.heap.objs.size)).get? (s.heap.objs.size + 1) = some (PySem.W.instObj C s.heap.objs.size) := by
    have := Heap.get?_push_size (s.heap.push PySem.W.emptyDict) (o := PySem.W.instObj C s.heap.objs.size) rfl
    rwa [Heap.size_push] at this
  have e3 : (s.heap.push PySem.W.emptyDict).Ns s.heap.objs.size (fun _ => none) := ⟨PySem.W.emptyDict, #[], _, e1, rfl, (fun e he => absurd he (by simp)), fun _ => rfl⟩
  have I1 := I.laid (a := s.heap.objs.size) (o := .own (s.heap.objs.size + 1)) (h' := s.heap.push PySem.W.emptyDict) (t' := s.toks) (fun b u q => Heap.get?_push_of_some _ q) (Nat.le_refl _) ⟨_, e1⟩
  refine I1.laid (a := s.heap.objs.size + 1) (o := .ins C s.heap.objs.size []) (t' := s.toks) (fun b u q => Heap.get?_push_of_some _ q) (Nat.le_of_eq (Heap.size_push _ _)) ?_
  have ne : s.heap.objs.size ≠ s.heap.objs.size + 1 := Nat.ne_of_lt (Nat.lt_succ_self _)
  refine ⟨by rw [upd_ne ne, upd_same], Nat.zero_le _, ne, e2, fun _ => none, (Heap.Ns1.of_empty e3).at fun o q => Heap.get?_push_of_some _ q, fun _ => True.intro, fun y hy => absurd rfl hy⟩

/-- e.f where nothing but the object is asked: through attributeBase (super) and the last hold -/
theorem attr_of {prog : Program} {w : World} {env : Env} {e : Expr} {f : Str} {pos : Pos} {s : Shared} {Q : Value → Shared → Prop} (hb : attributeBase e f env (eval e env) = eval e env)
    (h : wpAny (model prog w) A (eval e env) (fun o s₁ => wpAny (model prog w) A (getAttr o f true) Q E s₁) E s) : wpAny (model prog w) A (eval (.Attribute e f pos) env) Q E s :=
  Attribute_any_ h (by rw [arm_eval_Attribute, hb])
end

/-! ### readings and rules -/
/-- e.f, an attribute of the instance -/
def tFld (K : PySem.W.Frag) (ta : TE) (f : Str) : TE := fun σ H Q => ta σ H fun x H1 => ∃ a C dx fs v, x = .ref a ∧ H1 a = some (.ins C dx fs) ∧ Cls K C ∧ NoAttr K C f ∧ fs.lookup f = some v ∧ Q v H1
/-- e.f, a constant of the class -/
def tCon (K : PySem.W.Frag) (ta : TE) (f : Str) : TE := fun σ H Q => ta σ H fun x H1 => ∃ a C dx fs v u, x = .ref a ∧ H1 a = some (.ins C dx fs) ∧ Cls K C ∧ Con K C f v u ∧ fs.lookup f = none ∧ Q v H1
/-- e.f = value -/
def sFld (K : PySem.W.Frag) (ta tv : TE) (f : Str) : TS := fun D σ H => tv σ H fun y H1 => ta σ H1 fun x H2 => ∃ a C dx fs, x = .ref a ∧ H2 a = some (.ins C dx fs) ∧ Cls K C ∧ NoAttr K C f ∧ fs.length < 1000 ∧
  D.nx σ (upd H2 a (.ins C dx (putF f y fs)))
/-- an augmented operator on two values -/
def InOp (X : Cx) (op : Operator) (rd : V → V → Hp → VK → Prop) : Prop :=
  ∀ (pins : List (Addr × Obj)) (s : Shared) (σ : St) (H : Hp) (x y : V) (u v : Value) (Q : VK), Inv X pins σ H s → RelV x u → RelV y v → rd x y H Q → wpAny (model X.prog X.w) X.A (inplaceOp op u v) (EP X pins σ Q) X.xe s
/-- e.f op= value -/
def sFldAug (K : PySem.W.Frag) (ta tv : TE) (rd : V → V → Hp → VK → Prop) (f : Str) : TS := fun D σ H => ta σ H fun x H1 => ∃ a C dx fs v, x = .ref a ∧ H1 a = some (.ins C dx fs) ∧ Cls K C ∧ NoAttr K C f ∧ fs.lookup f = some v ∧
  tv σ H1 fun y H2 => rd v y H2 fun z H3 => ∃ dx' fs', H3 a = some (.ins C dx' fs') ∧ fs'.length < 1000 ∧ D.nx σ (upd H3 a (.ins C dx' (putF f z fs')))

section
variable {X : Cx} {o e value : Expr} {f : Str} {pos pos' tpos : Pos} {ta tv : TE}
theorem pe_fld (he : PE X e ta) (hb : attributeBase e f X.env (eval e X.env) = eval e X.env) : PE X (.Attribute e f pos) (tFld X.K ta f) := by
  intro pins s σ H Q I h
  refine attr_of hb (thn (he pins s σ H _ I h) fun u s1 ⟨x, H1, I1, rx, a, C, dx, fs, v, ex, ea, c, n, l, q⟩ => ?_)
  subst ex
  obtain rfl : u = Value.ref a := rx
  exact getattr_ok I1 ea c n l fun u' s2 I2 ru => ⟨v, H1, I2, ru, q⟩
theorem pe_con (he : PE X e ta) (hb : attributeBase e f X.env (eval e X.env) = eval e X.env) : PE X (.Attribute e f pos) (tCon X.K ta f) := by
  intro pins s σ H Q I h
  refine attr_of hb (thn (he pins s σ H _ I h) fun u s1 ⟨x, H1, I1, rx, a, C, dx, fs, v, u0, ex, ea, c, k, l, q⟩ => ?_)
  subst ex
  obtain rfl : u = Value.ref a := rx
  exact getcon_ok I1 ea c k l fun s2 I2 => ⟨v, H1, I2, k.rel, q⟩
theorem ps_fld (ha : PE X o ta) (hv : PE X value tv) (hs : swapsWith value (some (.Attribute o f pos')) pos.line X.env = pure false) : PS X (.Assign [.Attribute o f pos'] value pos) (sFld X.K ta tv f) := by
  intro pins s σ H D I h
  refine plainObj_wpAny_Assign_Attribute (thn (hv pins s σ H _ I h) fun u s1 ⟨y, H1, I1, ry, q⟩ => thn (ha pins s1 σ H1 _ I1 q) fun ov s2 ⟨x, H2, I2, rx, a, C, dx, fs, ex, ea, c, n, l, q2⟩ => ?_) hs
  subst ex
  obtain rfl : ov = Value.ref a := rx
  exact setattr_ok I2 ea c n l ry fun s3 I3 => ⟨σ, _, I3, q2⟩
theorem ps_fldaug {op : Operator} {rd : V → V → Hp → VK → Prop} (ha : PE X o ta) (hv : PE X value tv) (hop : InOp X op rd) : PS X (.AugAssign (.Attribute o f tpos) op value pos) (sFldAug X.K ta tv rd f) := by
  intro pins s σ H D I h
  refine wpAny_AugAssign_AttributeAny (thn (ha pins s σ H _ I h) fun ov s1 ⟨x, H1, I1, rx, a, C, dx, fs, v, ex, ea, c, n, l, q⟩ => ?_)
  subst ex
  obtain rfl : ov = Value.ref a := rx
  refine getattr_ok I1 ea c n l fun u s2 I2 ru => thn (hv pins s2 σ H1 _ I2 q) fun w3 s3 ⟨y, H2, I3, ry, q3⟩ => thn (hop pins s3 σ H2 v y u w3 _ I3 ru ry q3) fun w4 s4 ⟨z, H3, I4, rz, dx', fs', ea', l', q4⟩ => ?_
  exact setattr_ok I4 ea' c n l' rz fun s5 I5 => ⟨σ, _, I5, q4⟩
def rAdd : V → V → Hp → VK → Prop := fun x y H Q => ∃ i j, x = .int i ∧ y = .int j ∧ Q (.int (i + j)) H
def rSub : V → V → Hp → VK → Prop := fun x y H Q => ∃ i j, x = .int i ∧ y = .int j ∧ Q (.int (i - j)) H
theorem in_add : InOp X .Add rAdd := by
  rintro pins s σ H x y u v Q I rx ry ⟨i, j, rfl, rfl, q⟩
  obtain ⟨t, rfl⟩ := (show ∃ t, u = Value.int i t from rx)
  obtain ⟨t', rfl⟩ := (show ∃ t', v = Value.int j t' from ry)
  exact PyProof.Rows.iadd_int ⟨.int (i + j), H, I.tok _, ⟨_, rfl⟩, q⟩
theorem in_sub : InOp X .Sub rSub := by
  rintro pins s σ H x y u v Q I rx ry ⟨i, j, rfl, rfl, q⟩
  obtain ⟨t, rfl⟩ := (show ∃ t, u = Value.int i t from rx)
  obtain ⟨t', rfl⟩ := (show ∃ t', v = Value.int j t' from ry)
  exact PyProof.Rows.isub_int ⟨.int (i - j), H, I.tok _, ⟨_, rfl⟩, q⟩

/-- what is between an instance and its method: the tree of a method call -/
theorem methcall_of {pl : Sem Bool} {m : Str} {apos : Pos} {args : List Expr} {pins : List (Addr × Obj)} {s : Shared} {σ : St} {H : Hp} {Q : Value → Shared → Prop} {te : TE} (he : PE X e te) (I : Inv X pins σ H s)
    (h : te σ H fun x H1 => ∃ a C dx fs g, x = .ref a ∧ H1 a = some (.ins C dx fs) ∧ Cls X.K C ∧ Meth X.K C m g ∧ fs.lookup m = none ∧
      ∀ s1, Inv X pins σ H1 s1 → wpAny (model X.prog X.w) X.A (callWith pos (.ref g) [.ref a] (backTo pos (starEach args X.env)) (backToKw pos (keywordEach [] X.env))) Q X.xe s1)
    (ht : eval (.Call (.Attribute e m apos) args [] pos) X.env = (do
      let ov ← eval e X.env
      standAt apos.atName
      let (f, first) ← holding [ov] (getMethod ov m pl)
      callWith pos f first (backTo pos (starEach args X.env)) (backToKw pos (keywordEach [] X.env)))) :
    wpAny (model X.prog X.w) X.A (eval (.Call (.Attribute e m apos) args [] pos) X.env) Q X.xe s := by
  refine PySem.W.methodCall_KW (pl := pl) (thn (he pins s σ H _ I h) fun u s1 ⟨x, H1, I1, rx, a, C, dx, fs, g, ex, ea, c, k, l, q⟩ => ?_) ht
  subst ex
  obtain rfl : u = Value.ref a := rx
  exact getmeth_ok I1 ea c k l (q s1 I1)
end

/-! ### isinstance -/
section
variable {X : Cx} {pins : List (Addr × Obj)} {σ : St} {H : Hp} {s : Shared} {A : Around} {E : Value → Shared → Prop} {Q : Value → Shared → Prop} {c : Value} {b : Bool}
/-- the type of a value, as the fragment's deciders take it; for an instance its class -/
inductive TyOf (K : PySem.W.Frag) (H : Hp) : V → Value → Prop where
  | non : TyOf K H .non (.type "NoneType")
  | bl (x : Bool) : TyOf K H (.bl x) (.type "bool")
  | int (i : Int) : TyOf K H (.int i) (.type "int")
  | str (x : Str) : TyOf K H (.str x) (.type "str")
  | flt (x : UInt64) : TyOf K H (.flt x) (.type "float")
  | lst {a : Addr} {xs : List V} (e : H a = some (.lst xs)) : TyOf K H (.ref a) (.type "list")
  | frz {a : Addr} {o : Obj} {xs : List V} (e : H a = some (.frz o (.lst xs))) : TyOf K H (.ref a) (.type "list")
  | tup {a : Addr} {xs : List V} (e : H a = some (.tup xs)) : TyOf K H (.ref a) (.type "tuple")
  | dK {a : Addr} {kvs : List (Key × V)} (e : H a = some (.dK kvs)) : TyOf K H (.ref a) (.type "dict")
  | dT {a : Addr} {kvs : List (List Key × V)} (e : H a = some (.dT kvs)) : TyOf K H (.ref a) (.type "dict")
  | ins {a C dx : Addr} {fs : List (Str × V)} (e : H a = some (.ins C dx fs)) (cl : Cls K C) (ha : PySem.W.findIn K (.ref C) "__class__" = some (some (.builtin "object.__class__")))
      (hn : PySem.W.specialIn K (.builtin "object.__class__") "__get__" = some (some (.builtin "getset_descriptor.__get__"))) (htk : PySem.W.takesIn K (.builtin "object.__class__") = some true)
      (hm : PySem.W.mroIn K C (.type "object") = some true) : TyOf K H (.ref a) (.ref C)
/-- isinstance(x, c) for one class c, a built-in or an own one: kitOne's answer -/
theorem isinst_ok {x : V} {u t : Value} (I : Inv X pins σ H s) (rx : RelV x u) (ty : TyOf X.K H x t) (e : PySem.W.kitOne X.K t c = some b) (h : ∀ tk, Q (.bool b) { s with toks := tk }) :
    wpAny (model X.prog X.w) A (call (.builtin "isinstance") [u, c]) Q E s := by
  cases ty with
  | non => cases (show u = Value.none from rx); exact PySem.W.kia_one PySem.W.kitx_none I.kIn True.intro e (fun z => nomatch z) h
  | bl y => cases (show u = Value.bool y from rx); exact PySem.W.kia_one PySem.W.kitx_bool I.kIn True.intro e (fun z => nomatch z) h
  | int i => obtain ⟨t, q⟩ := (show ∃ t, u = Value.int i t from rx); cases q; exact PySem.W.kia_one PySem.W.kitx_int I.kIn True.intro e (fun z => nomatch z) h
  | str y => obtain ⟨t, q⟩ := (show ∃ t, u = Value.str y t from rx); cases q; exact PySem.W.kia_one PySem.W.kitx_str I.kIn True.intro e (fun z => nomatch z) h
  | flt y => obtain ⟨t, q⟩ := (show ∃ t, u = Value.float y t from rx); cases q; exact PySem.W.kia_one PySem.W.kitx_float I.kIn True.intro e (fun z => nomatch z) h
  | @lst a xs ea =>
    cases (show u = Value.ref a from rx)
    obtain ⟨_, _, n, _, h1⟩ := (show ObjOk X.prog X.w H s.heap a (.lst xs) from I.hok a _ ea)
    exact PySem.W.kia_one PySem.W.kitx_list I.kIn ⟨_, h1, rfl⟩ e (fun z => nomatch z) h
  | @frz a ob xs ea =>
    cases (show u = Value.ref a from rx)
    obtain ⟨_, _, _, n, _, h1⟩ := (show ObjOk X.prog X.w H s.heap a (.frz ob (.lst xs)) from I.hok a _ ea)
    exact PySem.W.kia_one PySem.W.kitx_list I.kIn ⟨_, h1, rfl⟩ e (fun z => nomatch z) h
  | @tup a xs ea =>
    cases (show u = Value.ref a from rx)
    obtain ⟨_, _, _, p⟩ := (show ObjOk X.prog X.w H s.heap a (.tup xs) from I.hok a _ ea)
    obtain ⟨o, h1, h2, _⟩ := p
    exact PySem.W.kia_one PySem.W.kitx_tuple I.kIn ⟨o, h1, h2⟩ e (fun z => nomatch z) h
  | @dK a kvs ea =>
    cases (show u = Value.ref a from rx)
    obtain ⟨_, _, vs, _, p⟩ := (show ObjOk X.prog X.w H s.heap a (.dK kvs) from I.hok a _ ea)
    obtain ⟨o, es, ep, h1, h2, _⟩ := p
    exact PySem.W.kia_one PySem.W.kitx_dict I.kIn ⟨o, h1, h2.1⟩ e (fun z => nomatch z) h
  | @dT a kvs ea =>
    cases (show u = Value.ref a from rx)
    obtain ⟨_, _, xs, _, o, es, ep, h1, h2, _⟩ := (show ObjOk X.prog X.w H s.heap a (.dT kvs) from I.hok a _ ea)
    exact PySem.W.kia_one PySem.W.kitx_dict I.kIn ⟨o, h1, h2.1⟩ e (fun z => nomatch z) h
  | @ins a C dx fs ea cl ha hn htk hm =>
    cases (show u = Value.ref a from rx)
    obtain ⟨mA, O, _⟩ := ins_get I.hok ea
    obtain ⟨od, J, _⟩ := O.look
    exact PySem.W.kia_one (PySem.W.kitx_own (cl.get _) cl.hd ha hn htk hm) I.kIn J e (fun z => nomatch z) h
end
end L2

namespace L2
open PySem PySem.Spec PyProof.Rows

/-! ### room -/
structure Room (k : Nat) (A : Around) : Prop where
  hd : A.handled = none
  dp : A.depth + 3 * k + 5 < recursionLimit
  un : A.units + 16 * k + 200 < cLine
theorem Room.mono {j k : Nat} {A : Around} (r : Room k A) (h : j ≤ k) : Room j A := ⟨r.hd, by have := r.dp; omega, by have := r.un; omega⟩
theorem Room.deeper {k : Nat} {A : Around} (r : Room (k + 1) A) (env : Env) : Room k (A.deeper env) :=
  ⟨r.hd, by have := r.dp; show A.depth + 1 + 3 * k + 5 < _; omega, by have := r.un; show A.units + 3 + 16 * k + 200 < _; omega⟩
theorem Room.in1 {k : Nat} {A : Around} (r : Room (k + 1) A) : Room k A.in1 :=
  ⟨r.hd, by have := r.dp; show A.depth + 3 * k + 5 < _; omega, by have := r.un; show A.units + 1 + 16 * k + 200 < _; omega⟩
theorem make_depth {A : Around} {C : Addr} {us : List Value} {kw : List (Str × Value)} : (A.under (.builtin "type.__call__" ⟨.ref C :: us, kw⟩)).depth = A.depth + 1 := by
  first | rfl | simp [Around.under, Code.weight, Code.isCreation, Code.isGuard, Code.isCaller, Code.frames, Code.isFrame, guardIds]
theorem make_units {A : Around} {C : Addr} {us : List Value} {kw : List (Str × Value)} : (A.under (.builtin "type.__call__" ⟨.ref C :: us, kw⟩)).units = A.units + 1 := by
  first | rfl | simp [Around.under, Code.cUnits, Code.frames, Code.isFrame]
theorem Room.make {k : Nat} {A : Around} (r : Room (k + 1) A) (C : Addr) (us : List Value) (kw : List (Str × Value)) : Room k (A.under (.builtin "type.__call__" ⟨.ref C :: us, kw⟩)) :=
  ⟨r.hd, by have := r.dp; rw [make_depth]; omega, by have := r.un; rw [make_units]; omega⟩
theorem Room.depth {k : Nat} {A : Around} (r : Room k A) : A.depth < recursionLimit := by have := r.dp; omega
theorem Room.units {k : Nat} {A : Around} (r : Room k A) : A.units + 64 < cLine := by have := r.un; omega
theorem Room.units0 {k : Nat} {A : Around} (r : Room k A) : A.units < cLine := by have := r.un; omega

/-! ### argument lists and displays -/
def tNil : TA := fun _ H Q => Q [] H
def tCons (ta : TE) (tr : TA) : TA := fun σ H Q => ta σ H fun x H1 => tr σ H1 fun xs H2 => Q (x :: xs) H2
section
variable {X : Cx} {e : Expr} {es : List Expr} {te : TE} {t : TA} {pos : Pos}
theorem pa_nil : PA X [] tNil := fun _ _ _ _ H Q I h => Calls.spliced_nil ⟨[], H, I, .nil, h⟩
theorem pa_cons (ha : PE X e te) (hr : PA X es t) (hs : starEach (e :: es) X.env = (false, eval e X.env) :: starEach es X.env := by rfl) : PA X (e :: es) (tCons te t) := by
  intro pos pins s σ H Q I h
  rw [hs]
  show wpAny _ _ (spliced ((false, eval e X.env) :: backTo pos (starEach es X.env))) _ _ s
  refine Calls.spliced_cons (thn (ha pins s σ H _ I h) fun u s1 ⟨x, H1, I1, r1, q1⟩ => ?_)
  exact thn (hr pos pins s1 σ H1 _ I1 q1) fun us s2 ⟨xs, H2, I2, r2, q2⟩ => ⟨x :: xs, H2, I2, .cons r1 r2, q2⟩

/-- a tuple, a list of written items -/
def tTup (t : TA) : TE := fun σ H Q => t σ H fun xs H1 => xs.length ≤ sizeLine ∧ ∀ p, H1 p = none → Q (.ref p) (upd H1 p (.tup xs))
def tLst (t : TA) : TE := fun σ H Q => t σ H fun xs H1 => xs.length ≤ sizeLine ∧ ∀ p, H1 p = none → Q (.ref p) (upd H1 p (.lst xs))
theorem pe_tup {x1} (h : PA X es t) : PE X (.Tuple es x1 pos) (tTup t) := by
  intro pins s σ H Q I hq
  refine wpAny_Tuple_spliced (thn (h pos pins s σ H _ I hq) fun us s1 ⟨xs, H1, I1, r, z, q⟩ => ⟨by rw [← r.length]; exact z, ?_⟩)
  have hf : H1 s1.heap.objs.size = none := I1.hok.fresh (Nat.le_refl _)
  refine ⟨.ref s1.heap.objs.size, upd H1 s1.heap.objs.size (.tup xs), I1.laid (t' := s1.toks) (fun b u e => Heap.get?_push_of_some _ e) (Nat.le_refl _) ?_, rfl, q _ hf⟩
  exact ⟨z, us, r, ⟨_, Heap.get?_push_size _ rfl, rfl, _, rfl⟩⟩
theorem pe_lst (h : PA X es t) : PE X (.List es pos) (tLst t) := by
  intro pins s σ H Q I hq
  refine wpAny_List_spliced (thn (h pos pins s σ H _ I hq) fun us s1 ⟨xs, H1, I1, r, z, q⟩ => ⟨by rw [← r.length]; exact z, ?_⟩)
  have hf : H1 s1.heap.objs.size = none := I1.hok.fresh (Nat.le_refl _)
  refine ⟨.ref s1.heap.objs.size, upd H1 s1.heap.objs.size (.lst xs), I1.laid (t' := s1.toks) (fun b u e => Heap.get?_push_of_some _ e) (Nat.le_refl _) ?_, rfl, q _ hf⟩
  exact ⟨z, us, 0, r, Heap.get?_push_size _ rfl⟩
end

/-! ### what a def promises -/
/-- a def's promise: the bound arguments in the parameters' order, the heap, the wanted end, the wanted exception -/
abbrev Sp := List V → Hp → VK → XK → Prop
/-- how an exception lies behind a call (file 08 gives it): the callers' frames, abstract heap and state ahead of the call, the wish, the exception, the state -/
abbrev CXT := List Env → Hp → Shared → XK → Value → Shared → Prop

/-- the state at a call -/
structure Env0 (P : Program) (w : World) (K : PySem.W.Frag) (mg : Str → Option Value) (base : Heap) (A : Around) (outer : List Env) (s : Shared) (H : Hp) : Prop where
  frames : A.frames = some outer
  mod : Mod K mg base
  bs : ∀ b o, base.get? b = some o → s.heap.get? b = some o ∧ H b = none
  bsz : base.objs.size ≤ s.heap.objs.size
  funs : s.heap.FunFrames base outer
  frf : ∀ b ∈ frs outer, H b = none
  hok : HOk P w H s.heap
  bare : AllBare s.gens
/-- a call's end -/
def CE (outer : List Env) (P : Program) (w : World) (H : Hp) (s : Shared) (Q : VK) (u : Value) (s' : Shared) : Prop :=
  ∃ v H', s'.os = s.os ∧ AllBare s'.gens ∧ Un (frs outer) [] H H' s.heap s'.heap ∧ HOk P w H' s'.heap ∧ RelV v u ∧ Q v H'
def CR (CX : CXT) (outer : List Env) (P : Program) (w : World) (H : Hp) (s : Shared) (Q : VK) (E : XK) (r : Result) (s' : Shared) : Prop :=
  match r with
  | .ok (.ret u) => CE outer P w H s Q u s'
  | .ok _ => False
  | .error e => CX outer H s E e s'
structure FnOk (P : Program) (w : World) (K : PySem.W.Frag) (mg : Str → Option Value) (base : Heap) (CX : CXT) (k : Nat) (f : Addr) (fd : FuncData) (ps : List Str) (sp : Sp) : Prop where
  len : ∀ vs H Q E, sp vs H Q E → vs.length = ps.length
  run : ∀ (A : Around) (outer : List Env) (s : Shared) (H : Hp) (args : Args) (us : List Value) (vs : List V) (Q : VK) (E : XK), Room k A → Env0 P w K mg base A outer s H → BindsTo s fd args (ps.zip us) → Vals vs us → sp vs H Q E →
    codeAny (model P w) A (.call (.ref f) args) (CR CX outer P w H s Q E) s
theorem FnOk.mono {P : Program} {w : World} {K : PySem.W.Frag} {mg : Str → Option Value} {base : Heap} {CX : CXT} {j k : Nat} {f : Addr} {fd : FuncData} {ps : List Str} {sp : Sp} (F : FnOk P w K mg base CX j f fd ps sp) (h : j ≤ k) :
    FnOk P w K mg base CX k f fd ps sp := ⟨F.len, fun A outer s H args us vs Q E hr => F.run A outer s H args us vs Q E (hr.mono h)⟩
/-- a weaker promise -/
theorem FnOk.imp {P : Program} {w : World} {K : PySem.W.Frag} {mg : Str → Option Value} {base : Heap} {CX : CXT} {k : Nat} {f : Addr} {fd : FuncData} {ps : List Str} {sp sp' : Sp} (F : FnOk P w K mg base CX k f fd ps sp)
    (h : ∀ vs H Q E, sp' vs H Q E → sp vs H Q E) : FnOk P w K mg base CX k f fd ps sp' :=
  ⟨fun vs H Q E q => F.len vs H Q E (h _ _ _ _ q), fun A outer s H args us vs Q E hr he hb hv hs => F.run A outer s H args us vs Q E hr he hb hv (h _ _ _ _ hs)⟩

theorem Env0.make {P : Program} {w : World} {K : PySem.W.Frag} {mg : Str → Option Value} {base : Heap} {A : Around} {outer : List Env} {s : Shared} {H : Hp} (e : Env0 P w K mg base A outer s H) (C : Addr) (us : List Value) (kw : List (Str × Value)) :
    Env0 P w K mg base (A.under (.builtin "type.__call__" ⟨.ref C :: us, kw⟩)) outer s H := ⟨by first | exact e.frames | (simpa [Around.under, Code.envs, Code.isFrame, pushEnvs] using e.frames), e.mod, e.bs, e.bsz, e.funs, e.frf, e.hok, e.bare⟩
theorem Env0.in1 {P : Program} {w : World} {K : PySem.W.Frag} {mg : Str → Option Value} {base : Heap} {A : Around} {outer : List Env} {s : Shared} {H : Hp} (e : Env0 P w K mg base A outer s H) :
    Env0 P w K mg base A.in1 outer s H := ⟨e.frames, e.mod, e.bs, e.bsz, e.funs, e.frf, e.hok, e.bare⟩

section
variable {X : Cx} {pins : List (Addr × Obj)} {σ : St} {H : Hp} {s s' : Shared}
/-- from a body: what a callee wants -/
theorem Inv.env0 (I : Inv X pins σ H s) : Env0 X.prog X.w X.K X.mg X.base X.A X.stack s H :=
  ⟨I.ok.frames, I.ok.mod, I.bs, Nat.le_trans I.ok.bsz I.sz, I.stack, I.stkFree, I.hok, I.bare⟩
/-- behind a call -/
theorem Inv.after {Q : VK} {u : Value} (I : Inv X pins σ H s) (h : CE X.stack X.prog X.w H s Q u s') : EP X pins σ Q u s' := by
  obtain ⟨v, H', os, bare, un, hok, r, q⟩ := h
  obtain ⟨hh, g, d, t, os'⟩ := s'
  obtain rfl : os' = s.os := os
  exact ⟨v, H', I.call (h' := hh) (g' := g) (d' := d) (t' := t) (ch := []) un hok bare (fun b z => absurd z (by simp)), r, q⟩
end

/-! ### calls -/
/-- f(..): the written arguments, then the defaults dvs; E: what is wanted of an exception -/
def tCall (sp : Sp) (dvs : List V) (E : XK) (t : TA) : TE := fun σ H Q => t σ H fun vs H1 => sp (vs ++ dvs) H1 Q E
/-- o.m(..) of an instance of the class at C -/
def tMeth (C : Addr) (m : Str) (sp : Sp) (dvs : List V) (E : XK) (ta : TE) (t : TA) : TE := fun σ H Q => ta σ H fun x H1 => ∃ a dx fs, x = .ref a ∧ H1 a = some (.ins C dx fs) ∧ fs.lookup m = none ∧
  t σ H1 fun vs H2 => sp (x :: (vs ++ dvs)) H2 Q E
/-- C(..): a new instance and its dict, then __init__ -/
def tMake (C : Addr) (sp : Sp) (dvs : List V) (E : XK) (t : TA) : TE := fun σ H Q => t σ H fun vs H1 => ∀ x dx, H1 x = none → H1 dx = none → dx ≠ x →
  sp (.ref x :: (vs ++ dvs)) (upd (upd H1 dx (.own x)) x (.ins C dx [])) (fun v H2 => v = .non ∧ Q (.ref x) H2) E

/-- how the parameters are bound: us the positional arguments, kw the keywords' values by name, ds the defaults that fill up -/
def Binds (K : PySem.W.Frag) (fd : FuncData) (ps : List Str) (ds : List Value) : Prop :=
  ∀ (s : Shared) (us : List Value), K.In s.heap → (us ++ ds).length = ps.length → BindsTo s fd ⟨us, []⟩ (ps.zip (us ++ ds))
/-- every parameter is given -/
theorem Binds.all {K : PySem.W.Frag} {fd : FuncData} {ps : List Str} (h : ∀ us : List Value, us.length = ps.length → bindArgs fd ⟨us, []⟩ = pure (ps.zip us)) : Binds K fd ps [] := fun s us _ hl => by
  rw [List.append_nil] at hl ⊢
  exact .of_eq (h us hl)

/-- an exception of a callee reaches what this body wants of exceptions -/
def Passes (CX : CXT) (X : Cx) (E : XK) : Prop := ∀ (pins : List (Addr × Obj)) (σ : St) (H : Hp) (s : Shared) (e : Value) (s' : Shared), Inv X pins σ H s → CX X.stack H s E e s' → X.xe e s'

section
variable {X : Cx} {CX : CXT} {k : Nat} {f C : Addr} {fd : FuncData} {ps : List Str} {sp : Sp} {dvs : List V} {ds : List Value} {E : XK} {x m : Str} {p pos apos : Pos} {e o : Expr} {es : List Expr} {ta : TE} {t : TA}

/-- the callee runs -/
theorem run_fn {pins : List (Addr × Obj)} {σ : St} {H : Hp} {s : Shared} {Q : VK} {us : List Value} {vs : List V} (F : FnOk X.prog X.w X.K X.mg X.base CX k f fd ps sp) (hr : Room k X.A) (hb : Binds X.K fd ps ds) (hd : Vals dvs ds) (hx : Passes CX X E)
    (I : Inv X pins σ H s) (r : Vals vs us) (h : sp (vs ++ dvs) H Q E) : wpAny (model X.prog X.w) X.A (call (.ref f) us) (EP X pins σ Q) X.xe s := by
  have r2 : Vals (vs ++ dvs) (us ++ ds) := r.append hd
  have hl : (us ++ ds).length = ps.length := by rw [← r2.length]; exact F.len _ _ _ _ h
  refine wpAny_call (codeAny_mono (F.run X.A X.stack s H ⟨us, []⟩ (us ++ ds) (vs ++ dvs) Q E hr I.env0 (hb s us I.kIn hl) r2 h) fun r s' hq => ?_)
  cases r with
  | error e => exact hx pins σ H s e s' I hq
  | ok fl =>
    cases fl with
    | ret u => exact I.after hq
    | next => exact False.elim hq
    | brk => exact False.elim hq
    | cont => exact False.elim hq

theorem pe_call (F : FnOk X.prog X.w X.K X.mg X.base CX k f fd ps sp) (hr : Room k X.A) (hg : Gl X x) (hm : X.mg x = some (.ref f)) (hk : PySem.W.keepIn X.K (.ref f) = true) (hb : Binds X.K fd ps ds) (hd : Vals dvs ds) (hx : Passes CX X E)
    (ha : PA X (e :: es) t) (hdb : (x == ("__debug__" : Str)) = false := by decide) (he : starEach (e :: es) X.env = (false, eval e X.env) :: starEach es X.env := by rfl) (hpl : (backTo pos (starEach es X.env)).any (·.1) = false := by rfl) :
    PE X (.Call (.Name x p) (e :: es) [] pos) (tCall sp dvs E t) := by
  intro pins s σ H Q I h
  refine wpAny_Call_Name_kw (ld_glob I hg hm ?_ hdb)
  refine PySem.W.callWith_K (h₀ := X.base) I.ok.mod.kin hk (thn (ha pos pins s σ H _ I h) fun us s1 ⟨vs, H1, I1, r, q⟩ => ⟨I1.kIn, ?_⟩) he hpl
  exact run_fn F hr hb hd hx I1 r q
theorem pe_call0 (F : FnOk X.prog X.w X.K X.mg X.base CX k f fd ps sp) (hr : Room k X.A) (hg : Gl X x) (hm : X.mg x = some (.ref f)) (hk : PySem.W.keepIn X.K (.ref f) = true) (hb : Binds X.K fd ps ds) (hd : Vals dvs ds) (hx : Passes CX X E)
    (hdb : (x == ("__debug__" : Str)) = false := by decide) : PE X (.Call (.Name x p) [] [] pos) (tCall sp dvs E tNil) := by
  intro pins s σ H Q I h
  refine wpAny_Call_Name_kw (ld_glob I hg hm ?_ hdb)
  exact PySem.W.callWith_K0 I.kIn hk (run_fn (us := []) F hr hb hd hx I .nil h)

/-- o.m(e, ..) -/
theorem pe_meth {pl : Sem Bool} (he : PE X o ta) (c : Cls X.K C) (hm : Meth X.K C m f) (F : FnOk X.prog X.w X.K X.mg X.base CX k f fd ps sp) (hr : Room k X.A) (hb : Binds X.K fd ps ds) (hd : Vals dvs ds) (hx : Passes CX X E) (ha : PA X (e :: es) t)
    (hst : starEach (e :: es) X.env = (false, eval e X.env) :: starEach es X.env := by rfl) (hpl : (backTo pos (starEach es X.env)).any (·.1) = false := by rfl)
    (ht : eval (.Call (.Attribute o m apos) (e :: es) [] pos) X.env = (do
      let ov ← eval o X.env
      standAt apos.atName
      let (f, first) ← holding [ov] (getMethod ov m pl)
      callWith pos f first (backTo pos (starEach (e :: es) X.env)) (backToKw pos (keywordEach [] X.env))) := by rfl) :
    PE X (.Call (.Attribute o m apos) (e :: es) [] pos) (tMeth C m sp dvs E ta t) := by
  intro pins s σ H Q I h
  refine PySem.W.methodCall_KW (pl := pl) (thn (he pins s σ H _ I h) fun u s1 ⟨x, H1, I1, rx, a, dx, fs, ex, ea, l, q⟩ => ?_) ht
  subst ex
  obtain rfl : u = Value.ref a := rx
  refine getmeth_ok I1 ea c hm l ?_
  refine PySem.W.callWith_K (first := [.ref a]) (h₀ := X.base) I.ok.mod.kin hm.kp (thn (ha pos pins s1 σ H1 _ I1 q) fun us s2 ⟨vs, H2, I2, r, q2⟩ => ⟨I2.kIn, ?_⟩) hst hpl
  exact run_fn (us := .ref a :: us) (vs := .ref a :: vs) F hr hb hd hx I2 (.cons rfl r) q2
/-- o.m() -/
theorem pe_meth0 {pl : Sem Bool} (he : PE X o ta) (c : Cls X.K C) (hm : Meth X.K C m f) (F : FnOk X.prog X.w X.K X.mg X.base CX k f fd ps sp) (hr : Room k X.A) (hb : Binds X.K fd ps ds) (hd : Vals dvs ds) (hx : Passes CX X E)
    (ht : eval (.Call (.Attribute o m apos) [] [] pos) X.env = (do
      let ov ← eval o X.env
      standAt apos.atName
      let (f, first) ← holding [ov] (getMethod ov m pl)
      callWith pos f first (backTo pos (starEach [] X.env)) (backToKw pos (keywordEach [] X.env))) := by rfl) :
    PE X (.Call (.Attribute o m apos) [] [] pos) (tMeth C m sp dvs E ta tNil) := by
  intro pins s σ H Q I h
  refine PySem.W.methodCall_KW (pl := pl) (thn (he pins s σ H _ I h) fun u s1 ⟨x, H1, I1, rx, a, dx, fs, ex, ea, l, q⟩ => ?_) ht
  subst ex
  obtain rfl : u = Value.ref a := rx
  refine getmeth_ok I1 ea c hm l ?_
  exact PySem.W.callWith_K0 (first := [.ref a]) I1.kIn hm.kp (run_fn (us := [.ref a]) (vs := [.ref a]) F hr hb hd hx I1 (.cons rfl .nil) q)

/-- what a class must have to be made -/
structure Mk (K : PySem.W.Frag) (C f : Addr) : Prop where
  makes : PySem.W.makesIn K C = true
  init : PySem.W.findIn K (.ref C) "__init__" = some (some (.ref f))
  fn : PySem.W.isFn K (.ref f) = true
  kp : PySem.W.keepIn K (.ref C) = true

theorem run_make {pins : List (Addr × Obj)} {σ : St} {H : Hp} {s : Shared} {Q : VK} {us : List Value} {vs : List V} (M : Mk X.K C f) (F : FnOk X.prog X.w X.K X.mg X.base CX k f fd ps sp) (hr : Room (k + 1) X.A) (hb : Binds X.K fd ps ds) (hd : Vals dvs ds)
    (hx : Passes CX X E) (I : Inv X pins σ H s) (r : Vals vs us)
    (h : ∀ x dx, H x = none → H dx = none → dx ≠ x → sp (.ref x :: (vs ++ dvs)) (upd (upd H dx (.own x)) x (.ins C dx [])) (fun v H2 => v = .non ∧ Q (.ref x) H2) E) :
    wpAny (model X.prog X.w) X.A (call (.ref C) us) (EP X pins σ Q) X.xe s := by
  have hq := h (s.heap.objs.size + 1) s.heap.objs.size (I.hok.fresh (Nat.le_succ _)) (I.hok.fresh (Nat.le_refl _)) (Nat.ne_of_lt (Nat.lt_succ_self _))
  have I2 := Inv.made (C := C) I
  have r2 : Vals (V.ref (s.heap.objs.size + 1) :: (vs ++ dvs)) (Value.ref (s.heap.objs.size + 1) :: (us ++ ds)) := .cons rfl (r.append hd)
  have hl : (Value.ref (s.heap.objs.size + 1) :: us ++ ds).length = ps.length := by
    have e := r2.length
    rw [F.len _ _ _ _ hq] at e
    exact e.symm
  refine wpAny_call (make_map (f := f) I.kIn M.makes M.init (beq_iff_eq.mp M.fn) (codeAny_mono (F.run _ X.stack _ _ ⟨Value.ref (s.heap.objs.size + 1) :: us, []⟩ (Value.ref (s.heap.objs.size + 1) :: (us ++ ds)) _ _ E (hr.make C us [])
    (I2.env0.make C us []) (hb _ (Value.ref (s.heap.objs.size + 1) :: us) I2.kIn hl) r2 hq) fun r s' hq' => ?_))
  cases r with
  | error e => exact hx pins σ _ _ e s' I2 hq'
  | ok fl =>
    cases fl with
    | ret u =>
      obtain ⟨v, H', I3, rv, ev, q3⟩ := I2.after hq'
      subst ev
      exact ⟨rv, ⟨V.ref (s.heap.objs.size + 1), H', I3, rfl, q3⟩⟩
    | next => exact False.elim hq'
    | brk => exact False.elim hq'
    | cont => exact False.elim hq'
theorem pe_make (M : Mk X.K C f) (F : FnOk X.prog X.w X.K X.mg X.base CX k f fd ps sp) (hr : Room (k + 1) X.A) (hg : Gl X x) (hm : X.mg x = some (.ref C)) (hb : Binds X.K fd ps ds) (hd : Vals dvs ds) (hx : Passes CX X E)
    (ha : PA X (e :: es) t) (hdb : (x == ("__debug__" : Str)) = false := by decide) (he : starEach (e :: es) X.env = (false, eval e X.env) :: starEach es X.env := by rfl) (hpl : (backTo pos (starEach es X.env)).any (·.1) = false := by rfl) :
    PE X (.Call (.Name x p) (e :: es) [] pos) (tMake C sp dvs E t) := by
  intro pins s σ H Q I h
  refine wpAny_Call_Name_kw (ld_glob I hg hm ?_ hdb)
  refine PySem.W.callWith_K (h₀ := X.base) I.ok.mod.kin M.kp (thn (ha pos pins s σ H _ I h) fun us s1 ⟨vs, H1, I1, r, q⟩ => ⟨I1.kIn, ?_⟩) he hpl
  exact run_make M F hr hb hd hx I1 r q
theorem pe_make0 (M : Mk X.K C f) (F : FnOk X.prog X.w X.K X.mg X.base CX k f fd ps sp) (hr : Room (k + 1) X.A) (hg : Gl X x) (hm : X.mg x = some (.ref C)) (hb : Binds X.K fd ps ds) (hd : Vals dvs ds) (hx : Passes CX X E)
    (hdb : (x == ("__debug__" : Str)) = false := by decide) : PE X (.Call (.Name x p) [] [] pos) (tMake C sp dvs E tNil) := by
  intro pins s σ H Q I h
  refine wpAny_Call_Name_kw (ld_glob I hg hm ?_ hdb)
  exact PySem.W.callWith_K0 I.kIn M.kp (run_make (us := []) M F hr hb hd hx I .nil h)
end

/-! ### keywords -/
/-- the values of the keywords, from the left -/
def PK (X : Cx) (kws : List Keyword) (t : TA) : Prop :=
  ∀ (pos : Pos) (pins : List (Addr × Obj)) (s : Shared) (σ : St) (H : Hp) (Q : List V → Hp → Prop), Inv X pins σ H s → t σ H Q → wpAny (model X.prog X.w) X.A (evalAll ((backToKw pos (keywordEach kws X.env)).map (·.2))) (AP X pins σ Q) X.xe s
section
variable {X : Cx} {CX : CXT} {k : Nat} {f C : Addr} {fd : FuncData} {ps ks : List Str} {sp : Sp} {E : XK} {x m : Str} {p pos apos kpos : Pos} {e o : Expr} {es : List Expr} {kws : List Keyword} {te ta : TE} {t tk : TA} {nm : Option Str}
theorem pk_nil : PK X [] tNil := fun _ _ _ _ H Q I h => wpAny_evalAll_nil ⟨[], H, I, .nil, h⟩
theorem pk_cons (ha : PE X e te) (hr : PK X kws t) : PK X (⟨nm, e, kpos⟩ :: kws) (tCons te t) := by
  intro pos pins s σ H Q I h
  show wpAny _ _ (evalAll ((do let v ← eval e X.env; standAt pos; pure v) :: (backToKw pos (keywordEach kws X.env)).map (·.2))) _ _ s
  refine wpAny_evalAll_cons (wpAny_bind (thn (ha pins s σ H _ I h) fun u s1 ⟨x, H1, I1, r1, q1⟩ => wpAny_bind (wpAny_standAt (wpAny_pure ?_))))
  exact thn (hr pos pins s1 σ H1 _ I1 q1) fun us s2 ⟨xs, H2, I2, r2, q2⟩ => ⟨x :: xs, H2, I2, .cons r1 r2, q2⟩

/-- how a call with keywords binds: g puts the positional values us and the keywords' values ws (names ks) in the parameters' order, defaults among them -/
structure KBinds (K : PySem.W.Frag) (fd : FuncData) (ps ks : List Str) (g : List Value → List Value → List Value) (gV : List V → List V → List V) : Prop where
  to : ∀ (s : Shared) (us ws : List Value), K.In s.heap → (g us ws).length = ps.length → BindsTo s fd ⟨us, ks.zip ws⟩ (ps.zip (g us ws))
  rel : ∀ {vs : List V} {us : List Value} {zs : List V} {ws : List Value}, Vals vs us → Vals zs ws → Vals (gV vs zs) (g us ws)
def tCallK (sp : Sp) (gV : List V → List V → List V) (E : XK) (t tk : TA) : TE := fun σ H Q => t σ H fun vs H1 => tk σ H1 fun zs H2 => sp (gV vs zs) H2 Q E
variable {g : List Value → List Value → List Value} {gV : List V → List V → List V}
theorem run_fnk {pins : List (Addr × Obj)} {σ : St} {H : Hp} {s : Shared} {Q : VK} {us ws : List Value} {vs zs : List V} (F : FnOk X.prog X.w X.K X.mg X.base CX k f fd ps sp) (hr : Room k X.A) (hb : KBinds X.K fd ps ks g gV) (hx : Passes CX X E)
    (I : Inv X pins σ H s) (r : Vals vs us) (rz : Vals zs ws) (h : sp (gV vs zs) H Q E) : wpAny (model X.prog X.w) X.A (call (.ref f) us (ks.zip ws)) (EP X pins σ Q) X.xe s := by
  have r2 := hb.rel r rz
  have hl : (g us ws).length = ps.length := by rw [← r2.length]; exact F.len _ _ _ _ h
  refine wpAny_call (codeAny_mono (F.run X.A X.stack s H ⟨us, ks.zip ws⟩ (g us ws) (gV vs zs) Q E hr I.env0 (hb.to s us ws I.kIn hl) r2 h) fun r s' hq => ?_)
  cases r with
  | error e => exact hx pins σ H s e s' I hq
  | ok fl =>
    cases fl with
    | ret u => exact I.after hq
    | next => exact False.elim hq
    | brk => exact False.elim hq
    | cont => exact False.elim hq
/-- f(e, .., k = v, ..) -/
theorem pe_callK (F : FnOk X.prog X.w X.K X.mg X.base CX k f fd ps sp) (hr : Room k X.A) (hg : Gl X x) (hm : X.mg x = some (.ref f)) (hk : PySem.W.keepIn X.K (.ref f) = true) (hb : KBinds X.K fd ps ks g gV) (hx : Passes CX X E)
    (ha : PA X (e :: es) t) (hkw : PK X kws tk) (hall : (backToKw pos (keywordEach kws X.env)).all (·.1.isSome) = true := by rfl) (hks : (backToKw pos (keywordEach kws X.env)).filterMap (·.1) = ks := by rfl)
    (hdb : (x == ("__debug__" : Str)) = false := by decide) (he : starEach (e :: es) X.env = (false, eval e X.env) :: starEach es X.env := by rfl)
    (hpl : ((backTo pos (starEach (e :: es) X.env)).any (·.1) || (backToKw pos (keywordEach kws X.env)).any (·.1.isNone)) = false := by rfl) :
    PE X (.Call (.Name x p) (e :: es) kws pos) (tCallK sp gV E t tk) := by
  intro pins s σ H Q I h
  refine wpAny_Call_Name_kw (ld_glob I hg hm ?_ hdb)
  refine PySem.W.callWith_KW (h₀ := X.base) I.ok.mod.kin hk hall (thn (ha pos pins s σ H _ I h) fun us s1 ⟨vs, H1, I1, r, q⟩ => ?_) hpl he
  refine thn (hkw pos pins s1 σ H1 _ I1 q) fun ws s2 ⟨zs, H2, I2, rz, q2⟩ => ⟨I2.kIn, ?_⟩
  rw [hks]
  exact run_fnk F hr hb hx I2 r rz q2
end

/-! ### a def's body keeps its promise -/
/-- names: the parameters first -/
structure FnScope (N P : List Str) (sc : Scope) : Prop where
  kind : sc.kind = .function
  co : sc.isCoroutine = false
  gen : sc.isGenerator = false
  nd : N.Nodup
  pre : N.take P.length = P
  par : ∀ x ∈ P, sc.names.lookup x = some .local ∨ sc.names.lookup x = some .cell
  nofree : ∀ y ∈ sc.names, y.2 ≠ .free

theorem bindL_out {kindOf : Str → Option NameKind} {x : Str} : ∀ {binds : List (Str × Value)} {m : Str → Option Value}, (∀ v, (x, v) ∉ binds) → bindL kindOf binds m x = m x
  | [], _, _ => rfl
  | (n, v) :: r, m, h => by
    unfold bindL
    rw [bindL_out fun w hw => h w (List.mem_cons_of_mem _ hw)]
    split
    · have : x ≠ n := by rintro rfl; exact h v List.mem_cons_self
      simp [this]
    · rfl
theorem bindC_out {kindOf : Str → Option NameKind} {x : Str} : ∀ {binds : List (Str × Value)} {m : Str → Option Value}, (∀ v, (x, v) ∉ binds) → bindC kindOf binds m x = m x
  | [], _, _ => rfl
  | (n, v) :: r, m, h => by
    unfold bindC
    rw [bindC_out fun w hw => h w (List.mem_cons_of_mem _ hw)]
    split
    · rfl
    · have : x ≠ n := by rintro rfl; exact h v List.mem_cons_self
      simp [this]
theorem bindL_get {kindOf : Str → Option NameKind} {x : Str} {v : Value} : ∀ {P : List Str} {vs : List Value} {i : Nat} {m : Str → Option Value}, P.Nodup → P[i]? = some x → vs[i]? = some v → kindOf x = some .local →
    bindL kindOf (P.zip vs) m x = some v
  | [], _, _, _, _, h, _, _ => by simp at h
  | _ :: _, [], _, _, _, _, h, _ => by simp at h
  | p :: P, w :: vs, 0, m, nd, h1, h2, hk => by
    simp at h1 h2; subst h1; subst h2
    show bindL kindOf ((p, w) :: P.zip vs) m p = _
    unfold bindL
    rw [bindL_out fun v hv => (List.nodup_cons.mp nd).1 (List.of_mem_zip hv).1, if_pos hk]
    simp
  | p :: P, w :: vs, i + 1, m, nd, h1, h2, hk => by
    show bindL kindOf ((p, w) :: P.zip vs) m x = _
    unfold bindL
    exact bindL_get (i := i) (List.nodup_cons.mp nd).2 (by simpa using h1) (by simpa using h2) hk
theorem bindC_get {kindOf : Str → Option NameKind} {x : Str} {v : Value} : ∀ {P : List Str} {vs : List Value} {i : Nat} {m : Str → Option Value}, P.Nodup → P[i]? = some x → vs[i]? = some v → kindOf x ≠ some .local →
    bindC kindOf (P.zip vs) m x = some v
  | [], _, _, _, _, h, _, _ => by simp at h
  | _ :: _, [], _, _, _, _, h, _ => by simp at h
  | p :: P, w :: vs, 0, m, nd, h1, h2, hk => by
    simp at h1 h2; subst h1; subst h2
    show bindC kindOf ((p, w) :: P.zip vs) m p = _
    unfold bindC
    rw [bindC_out fun v hv => (List.nodup_cons.mp nd).1 (List.of_mem_zip hv).1, if_neg hk]
    simp
  | p :: P, w :: vs, i + 1, m, nd, h1, h2, hk => by
    show bindC kindOf ((p, w) :: P.zip vs) m x = _
    unfold bindC
    exact bindC_get (i := i) (List.nodup_cons.mp nd).2 (by simpa using h1) (by simpa using h2) hk

/-- the names' values at the entry -/
def start (N : List Str) (vs : List V) : St := vs.map some ++ List.replicate (N.length - vs.length) none

/-- the context of a def's body, at its entry; an exception leaves the frame, then lies as CX says -/
def cxOf (CX : CXT) (P : Program) (w : World) (K : PySem.W.Frag) (mg : Str → Option Value) (base : Heap) (N : List Str) (qual : Str) (scope : Scope) (f : Addr) (cd : Value) (A : Around) (outer : List Env) (s : Shared) (H : Hp) (E : XK) : Cx where
  prog := P
  w := w
  K := K
  mg := mg
  base := base
  A := A.deeper (envOfC qual scope s.heap.objs.size f cd)
  N := N
  s₀ := s
  H₀ := H
  env := envOfC qual scope s.heap.objs.size f cd
  outer := outer
  stack := envOfC qual scope s.heap.objs.size f cd :: outer
  ex := []
  calm := true
  fn := fun _ => true
  pn := []
  xe := fun e s' => wpAny (model P w) (A.deeper (envOfC qual scope s.heap.objs.size f cd)) (leaving (envOfC qual scope s.heap.objs.size f cd) e) (fun _ s'' => CX outer H s E e s'') (fun e' s'' => CX outer H s E e' s'') s'

theorem cell_has {sc : Scope} {n : Nat} {x : Str} (h : sc.names.lookup x = some .cell) : ∃ c, (cellsFrom n sc.names []).lookup x = some c := by
  have q := PySem.W.cellsFrom_some sc.names n [] (.inl h)
  exact Option.isSome_iff_exists.mp q

theorem inv_start {CX : CXT} {P : Program} {w : World} {K : PySem.W.Frag} {mg : Str → Option Value} {base : Heap} {N ps : List Str} {qual : Str} {scope : Scope} {f : Addr} {cd : Value} {A : Around} {outer : List Env} {s s1 : Shared} {H : Hp} {E : XK} {us : List Value} {vs : List V}
    (S : FnScope N ps scope) (hd : A.handled = none) (e0 : Env0 P w K mg base A outer s H) (hl : vs.length = ps.length) (r : Vals vs us)
    (x : InCallC s s.heap.objs.size (bindL (envOfC qual scope s.heap.objs.size f cd).kindOf (ps.zip us) fun _ => none) (cellsFrom (s.heap.objs.size + 1) scope.names []) (bindC (envOfC qual scope s.heap.objs.size f cd).kindOf (ps.zip us) fun _ => none) s1) :
    Inv (cxOf CX P w K mg base N qual scope f cd A outer s H E) [] (start N vs) H s1 := by
  have hpl : ps.length ≤ N.length := by have := congrArg List.length S.pre; rw [List.length_take] at this; omega
  obtain ⟨h1, tk, rfl, hk⟩ := x.done
  have noA : ∀ b : Addr, b ∉ (cxOf CX P w K mg base N qual scope f cd A outer s H E).ex := fun b z => absurd (show b ∈ ([] : List Addr) from z) (by simp)
  refine ⟨⟨e0.mod, S.kind, rfl, rfl, Nat.le_refl _, fun y z c h1 h2 => ?_, fun y hy => ?_, fun y c _ h => ?_, fun _ => hd, Around.frames_deeper e0.frames, .inr ⟨rfl, rfl⟩, fun b z => absurd z (noA b), e0.bs, e0.bsz, fun b _ _ => noA b, fun b z => absurd z (noA b), e0.funs, e0.frf⟩,
    rfl, e0.bare, Un.kept hk, ⟨_, x.toInCall.ns, fun i y v h1 h2 h3 => ?_⟩, fun y c h => ⟨_, x.cell y c h⟩, e0.hok.fresh (Nat.le_refl _), fun y c h => ?_, fun p hp => absurd (show p ∈ ([] : List (Addr × Obj)) from hp) (by simp), e0.hok.kept hk, ?_⟩
  · exact name_of_addr x.apart (PySem.mem_of_lookup h1) (PySem.mem_of_lookup h2)
  · have hy : scope.names.lookup y = some .cell ∨ scope.names.lookup y = some .free := hy
    rcases hy with hy | hy
    · exact cell_has hy
    · exact absurd rfl (S.nofree _ (PySem.mem_of_lookup hy))
  · exact Nat.le_of_lt (x.above y c (PySem.mem_of_lookup h))
  · have hi : i < vs.length := by
      unfold start at h2
      by_cases hi : i < vs.length
      · exact hi
      · rw [List.getElem?_append_right (by simpa using hi)] at h2
        rw [List.getElem?_replicate] at h2
        split at h2 <;> cases h2
    have ha : vs[i]? = some v := by
      unfold start at h2
      rw [List.getElem?_append_left (by simpa using hi), List.getElem?_map] at h2
      cases e : vs[i]? with
      | none => rw [e] at h2; cases h2
      | some a => rw [e] at h2; cases h2; rfl
    obtain ⟨u, hu, rv⟩ := r.get ha
    have hp : ps[i]? = some y := by
      rw [← S.pre, List.getElem?_take_of_lt (by omega)]; exact h1
    have ndP : ps.Nodup := by rw [← S.pre]; exact S.nd.sublist (List.take_sublist _ _)
    refine ⟨u, rv, ?_⟩
    rcases S.par y (List.mem_of_getElem? hp) with k | k
    · exact .inl ⟨k, bindL_get ndP hp hu k⟩
    · obtain ⟨c, e⟩ := cell_has (n := s.heap.objs.size + 1) k
      refine .inr ⟨.inl k, c, e, ?_⟩
      have q := x.cell y c e
      rw [bindC_get ndP hp hu (by show scope.names.lookup y ≠ _; rw [k]; decide)] at q
      exact q
  · exact e0.hok.fresh (Nat.le_of_lt (x.above y c (PySem.mem_of_lookup h)))
  · unfold start
    show _ = N.length
    rw [List.length_append, List.length_map, List.length_replicate]
    omega

/-- THE RULE: a def (or a method) of the text, by its body. The body's reading t is chosen for each entry; it is run at the parameters' values -/
theorem fn_of {CX : CXT} {P : Program} {w : World} {K : PySem.W.Frag} {mg : Str → Option Value} {base : Heap} {k : Nat} {f : Addr} {name qual : Str} {params : Arguments} {body : List Stmt} {scope : Scope} {dV kV doc pm cdv ct oc : Value} {an od : Option Addr}
    {osl : Array (Option Value)} {N ps : List Str} {sp : Sp} (lk : K.lookup f = some ⟨oc, od, .func (PySem.W.fnOf name qual params body scope dV kV doc pm an cdv ct), osl⟩) (hcd : PySem.W.codeIn K cdv qual = true) (S : FnScope N ps scope)
    (len : ∀ vs H Q E, sp vs H Q E → vs.length = ps.length)
    (hbody : ∀ (A : Around) (outer : List Env) (s : Shared) (H : Hp) (vs : List V) (Q : VK) (E : XK), Room k (A.deeper (envOfC qual scope s.heap.objs.size f cdv)) → sp vs H Q E →
      ∃ t, PSs (cxOf CX P w K mg base N qual scope f cdv A outer s H E) body t ∧ t { nx := fun _ H' => Q .non H', rt := Q } (start N vs) H) :
    FnOk P w K mg base CX (k + 1) f (PySem.W.fnOf name qual params body scope dV kV doc pm an cdv ct) ps sp := by
  refine ⟨len, fun A outer s H args us vs Q E hr e0 hb r hsp => ?_⟩
  have hl := len _ _ _ _ hsp
  have KX : K.In s.heap := e0.mod.kin.keeps fun b o e => (e0.bs b o e).1
  have lim : s.heap.NoLimit := e0.mod.nolimit.keeps fun b o e => (e0.bs b o e).1
  have hkind : ∀ y ∈ ps.zip us, scope.names.lookup y.1 = some .local ∨ (scope.names.lookup y.1 = some .cell ∧ ((cellsFrom (s.heap.objs.size + 1) scope.names []).lookup y.1).isSome = true) := fun ⟨n, v⟩ hy => by
    rcases S.par n (List.of_mem_zip hy).1 with q | q
    · exact .inl q
    · exact .inr ⟨q, PySem.W.cellsFrom_some _ _ _ (.inl q)⟩
  refine codeAny_call_function hr.depth (KX _ _ lk) rfl S.co S.gen rfl (PySem.W.codeRec_of KX hcd) (hb _ _ _ _ ?_)
  refine wpAny_newFunctionEnv_cells S.kind hkind fun env he s1 x => ?_
  subst he
  refine ⟨lim.keeps x.toInCall.keep, codeAny_func ?_⟩
  obtain ⟨t, ht, hq⟩ := hbody A outer s H vs Q E (hr.deeper _) hsp
  have I : Inv (cxOf CX P w K mg base N qual scope f cdv A outer s H E) [] (start N vs) H s1 := inv_start S hr.hd e0 hl r x
  refine wpAny_mono (ht [] s1 (start N vs) H _ I hq) (fun fl s' hs => ?_) fun e s' hs => hs
  have fin : ∀ {σ' : St} {H' : Hp} {v : V} {u : Value}, Inv (cxOf CX P w K mg base N qual scope f cdv A outer s H E) [] σ' H' s' → RelV v u → Q v H' → CE outer P w H s Q u s' :=
    fun {σ' H' v u} J rv q => ⟨v, H', J.os, J.bare, J.base, J.hok, rv, q⟩
  cases fl with
  | ret u =>
    obtain ⟨v, σ', H', J, rv, q⟩ := hs
    exact fin J rv q
  | next =>
    obtain ⟨σ', H', J, q⟩ := hs
    exact fin (v := V.non) (u := Value.none) J rfl q
  | brk =>
    obtain ⟨_, _, _, q⟩ := hs
    exact False.elim q
  | cont =>
    obtain ⟨_, _, _, q⟩ := hs
    exact False.elim q
end L2

namespace L2
open PySem PySem.Spec PyProof.Rows
section
variable {X : Cx} {x : Str} {p pos : Pos} {e : Expr} {es : List Expr} {t : TA} {id T : String} {r : List V → Hp → VK → Prop}

def tCB (r : List V → Hp → VK → Prop) (t : TA) : TE := fun σ H Q => t σ H fun vs H1 => r vs H1 Q
/-- f(e, ..), f a built-in function -/
theorem pe_callB (hc : CallR X (.builtin id) r) (hg : Gl X x) (hm : X.mg x = none) (hv : bootBuiltins x = some (.builtin id)) (ha : PA X (e :: es) t) (hn : x ≠ "__name__" := by decide) (hdb : (x == ("__debug__" : Str)) = false := by decide)
    (he : starEach (e :: es) X.env = (false, eval e X.env) :: starEach es X.env := by rfl) (hpl : (backTo pos (starEach es X.env)).any (·.1) = false := by rfl) : PE X (.Call (.Name x p) (e :: es) [] pos) (tCB r t) := by
  intro pins s σ H Q I h
  refine wpAny_Call_Name_kw (ld_blt I hg hm hv ?_ hn hdb)
  exact PyProof.Rows.callWith_builtin1 (thn (ha pos pins s σ H _ I h) fun us s1 ⟨vs, H1, I1, r1, q1⟩ => hc pins s1 σ H1 vs us Q I1 r1 q1) he hpl
/-- T(e, ..), T a built-in type -/
theorem pe_callTy (hc : CallR X (.type T) r) (hg : Gl X x) (hm : X.mg x = none) (hv : bootBuiltins x = some (.type T)) (ha : PA X (e :: es) t) (hn : x ≠ "__name__" := by decide) (hdb : (x == ("__debug__" : Str)) = false := by decide)
    (he : starEach (e :: es) X.env = (false, eval e X.env) :: starEach es X.env := by rfl) (hpl : (backTo pos (starEach es X.env)).any (·.1) = false := by rfl) : PE X (.Call (.Name x p) (e :: es) [] pos) (tCB r t) := by
  intro pins s σ H Q I h
  refine wpAny_Call_Name_kw (ld_blt I hg hm hv ?_ hn hdb)
  exact PyProof.Rows.callWith_type1 (thn (ha pos pins s σ H _ I h) fun us s1 ⟨vs, H1, I1, r1, q1⟩ => hc pins s1 σ H1 vs us Q I1 r1 q1) he hpl
/-- T() -/
theorem pe_callTy0 (hc : CallR X (.type T) r) (hg : Gl X x) (hm : X.mg x = none) (hv : bootBuiltins x = some (.type T)) (hn : x ≠ "__name__" := by decide) (hdb : (x == ("__debug__" : Str)) = false := by decide) :
    PE X (.Call (.Name x p) [] [] pos) (tCB r tNil) := by
  intro pins s σ H Q I h
  refine wpAny_Call_Name_kw (ld_blt I hg hm hv ?_ hn hdb)
  exact PyProof.Rows.callWith_type0 (hc pins s σ H [] [] Q I .nil h)
end
end L2

namespace HT
open PySem PyProof.Rows

/-- t < u of tuples of ints -/
def lexLt : List Int → List Int → Bool
  | [], [] => false
  | [], _ :: _ => true
  | _ :: _, [] => false
  | x :: xs, y :: ys => if x = y then lexLt xs ys else decide (x < y)
theorem lexLt_cons (x y : Int) (xs ys : List Int) : lexLt (x :: xs) (y :: ys) = if x = y then lexLt xs ys else decide (x < y) := rfl
theorem lexLt_nil_nil : lexLt [] [] = false := rfl
theorem lexLt_nil_cons (y : Int) (ys : List Int) : lexLt [] (y :: ys) = true := rfl
theorem lexLt_cons_nil (x : Int) (xs : List Int) : lexLt (x :: xs) [] = false := rfl

theorem eqAt_int (A : Around) (s : Shared) (a : Int) (t : Tok) (c : Int) (u : Tok) : ∃ e, SeqAt.EqAt A s (.int a t) (.int c u) e ∧ (e = true ↔ a = c) :=
  ⟨(a == c), SeqAt.EqAt.int_int a t c u, by simp⟩
theorem rcLt_int (A : Around) (s : Shared) (a : Int) (t : Tok) (c : Int) (u : Tok) (prog : Program) (w : World) (E : Value → Shared → Prop) (Q : Value → Shared → Prop) (h : Q (.bool (decide (a < c))) s) :
    wpAny (model prog w) A (richCompare .Lt (.int a t) (.int c u)) Q E s :=
  (PyProof.Rows.lt_int h : wpAny (model prog w) A (compareOp .Lt (.int a t) (.int c u)) Q E s)

section
open PySem.SeqAt
open PySem.AutoSeq1 (wpAny_loadPart')
open PySem.MeetsSeq PySem.MeetsSeq2 PySem.MeetsSeq3

theorem tuple_lt_ints (l b : Addr) (items items2 : Array Value) (n n2 : Nat) (dd dd2 : Option Addr) (sl sl2 : Array (Option Value)) (ns ms : List Int) (hi : IntsAre items.toList ns) (hj : IntsAre items2.toList ms) :
    Meets (Builtin.«tuple.__lt__» ⟨[.ref l, .ref b], []⟩)
      (fun _ R s => s.heap.get? l = some { cls := .type "tuple", dict := dd, data := .seq items n, slots := sl } ∧ s.heap.get? b = some { cls := .type "tuple", dict := dd2, data := .seq items2 n2, slots := sl2 } ∧
        R (.ok (.ret (.bool (lexLt ns ms)))) s) :=
  .of_wp fun prog w A R s h => by
    obtain ⟨hp, g, d, tk, os⟩ := s; obtain ⟨hl, hb, h⟩ := h
    have f2 := AutoSeq1.sub_tuple_tuple
    have z1 : items.size = ns.length := by rw [← hi.length]; simp
    have z2 : items2.size = ms.length := by rw [← hj.length]; simp
    wp_walk using wpAny_loadPart' hl, wpAny_loadPart' hb, wpAny_forIn_list _ (fun rest b s' => b.1 = none ∧ s' = ⟨hp, g, d, tk, os⟩ ∧ ∃ (vs ws : List Value) (ns' ms' : List Int), rest = vs.zip ws ∧
      IntsAre vs ns' ∧ IntsAre ws ms' ∧ ns'.length + items2.size = ms'.length + items.size ∧ R (.ok (.ret (.bool (lexLt ns' ms')))) ⟨hp, g, d, tk, os⟩) _
    case turn =>
      rintro ⟨y, x⟩ rest b s' ⟨hb', rfl, vs, ws, ns', ms', hz, hvi, hwi, hlen, hR⟩
      cases hvi with
      | nil => rw [List.zip_nil_left] at hz; cases hz
      | cons a t hvi' =>
        cases hwi with
        | nil => rw [List.zip_nil_right] at hz; cases hz
        | cons c u hwi' =>
          rw [List.zip_cons_cons] at hz
          injection hz with hyx hrest
          injection hyx with hy hx
          subst hy hx
          rw [lexLt_cons] at hR
          simp only [List.length_cons] at hlen
          obtain ⟨e, he, hiff⟩ := eqAt_int A.in1 ⟨hp, g, d, tk, os⟩ a t c u
          refine wpAny_bind (he prog w _ _ ?_)
          cases e with
          | true =>
            rw [if_pos (hiff.mp rfl)] at hR
            wp_walk
            exact ⟨rfl, rfl, _, _, _, _, hrest, hvi', hwi', by omega, hR⟩
          | false =>
            rw [if_neg (fun q => absurd (hiff.mpr q) Bool.false_ne_true)] at hR
            have hri := rcLt_int A.in1 ⟨hp, g, d, tk, os⟩ a t c u prog w
            wp_walk using hri
            exact ⟨_, rfl, by simpa using hR⟩
    case fin =>
      rintro ⟨b1, b2⟩ s' ⟨hb', rfl, vs, ws, ns', ms', hz, hvi, hwi, hlen, hR⟩
      simp only at hb'
      subst hb'
      have hv : lexLt ns' ms' = decide (items.size < items2.size) := by
        cases hvi with
        | nil =>
          cases hwi with
          | nil =>
            simp only [List.length_nil] at hlen
            rw [lexLt_nil_nil]
            exact (decide_eq_false (by omega)).symm
          | cons c u hw =>
            simp only [List.length_nil, List.length_cons] at hlen
            rw [lexLt_nil_cons]
            exact (decide_eq_true (by omega)).symm
        | cons a t hv =>
          cases hwi with
          | nil =>
            simp only [List.length_nil, List.length_cons] at hlen
            rw [lexLt_cons_nil]
            exact (decide_eq_false (by omega)).symm
          | cons c u hw =>
            rw [List.zip_cons_cons] at hz
            cases hz
      rw [hv] at hR
      wp_walk
      exact ⟨_, rfl, by simpa [Builtin.Tuple.tupleCompareSizes] using hR⟩
    case h =>
      exact ⟨rfl, rfl, items.toList, items2.toList, ns, ms, rfl, hi, hj, by omega, h⟩
end

section
variable {prog : Program} {w : World} {A : Around} {E : Value → Shared → Prop} {s : Shared}

theorem lt_tupInts {l b : Addr} {items items2 : Array Value} {ns ms : List Int} {Q : Value → Shared → Prop} (hl : IsTup s.heap l items) (hb : IsTup s.heap b items2) (hi : IntsAre items.toList ns) (hj : IntsAre items2.toList ms)
    (hu : A.units < cLine) (h : Q (.bool (lexLt ns ms)) s) : wpAny (model prog w) A (compareOp .Lt (.ref l) (.ref b)) Q E s := by
  obtain ⟨⟨cls, dd, data, sl⟩, ho, hc, n, hd⟩ := id hl
  obtain ⟨⟨cls2, dd2, data2, sl2⟩, ho2, hc2, n2, hd2⟩ := id hb
  simp only at hc hd hc2 hd2
  subst hc hd hc2 hd2
  exact richCompare_meets_room (op := .Lt) ⟨_, ho, rfl⟩ ⟨_, ho2, rfl⟩ PySem.F.slot_tuple_lt PySem.F.entry_tuple_lt (PySem.F.args_tuple_lt_2 _ _) (tuple_lt_ints l b items items2 n n2 dd dd2 sl sl2 ns ms hi hj)
    ⟨ho, ho2, show Value.bool (lexLt ns ms) ≠ Value.notImplemented ∧ Q (.bool (lexLt ns ms)) s from ⟨(fun x => nomatch x), h⟩⟩ hu

/-- t + u, t not empty -/
theorem cat_tup {t b : Addr} {vs ws : List Value} {Q : Value → Shared → Prop} (ht : IsTup s.heap t vs.toArray) (hb : IsTup s.heap b ws.toArray) (hv : vs ≠ [])
    (h1 : ws = [] → Q (.ref t) s) (h2 : ws ≠ [] → Q (.ref s.heap.objs.size) { s with heap := s.heap.push { cls := .type "tuple", data := .seq (vs ++ ws).toArray } })
    (hsz : vs.length + ws.length ≤ sizeLine) : wpAny (model prog w) A (binaryOp .Add (.ref t) (.ref b)) Q E s := by
  obtain ⟨⟨cls, dd, data, sl⟩, ho, hc, n, hd⟩ := id ht
  obtain ⟨⟨cls2, dd2, data2, sl2⟩, ho2, hc2, n2, hd2⟩ := id hb
  simp only at hc hd hc2 hd2
  subst hc hd hc2 hd2
  have e : vs.toArray ++ ws.toArray = (vs ++ ws).toArray := by simp
  by_cases hw : ws = []
  · exact concat_meets ⟨_, ho, rfl⟩ ⟨_, ho2, rfl⟩ noFill_tuple_add seq_tuple_add PySem.F.slot_tuple_add PySem.F.entry_tuple_add (PySem.F.args_tuple_add_2 _ _)
      (tuple_addW1 t b vs.toArray ws.toArray n n2 dd dd2 sl sl2 (by simpa using hv) (by simp [hw])) ⟨ho, ho2, h1 hw⟩
  · refine concat_meets ⟨_, ho, rfl⟩ ⟨_, ho2, rfl⟩ noFill_tuple_add seq_tuple_add PySem.F.slot_tuple_add PySem.F.entry_tuple_add (PySem.F.args_tuple_add_2 _ _)
      (tuple_addW2 t b vs.toArray ws.toArray n n2 dd dd2 sl sl2 (by simpa using hv) (by simpa using hw) (by rw [List.size_toArray, List.size_toArray]; exact hsz)) ⟨ho, ho2, ?_⟩
    rw [e]
    exact h2 hw

/-! ### t[a:b], not the whole -/
/-- a slice's bound as a place among n (d where it is left out) -/
def sIx (n d : Nat) : Option Int → Nat
  | none => d
  | some v => if v < 0 then (v + (n : Int)).toNat else min v.toNat n
theorem sIx_none (n d : Nat) : sIx n d none = d := rfl
theorem sIx_nat (n d k : Nat) : sIx n d (some (k : Int)) = min k n := by
  show (if (k : Int) < 0 then ((k : Int) + (n : Int)).toNat else min (k : Int).toNat n) = min k n
  rw [if_neg (by omega), Int.toNat_natCast]
theorem sIx_le (n d : Nat) (hd : d ≤ n) (o : Option Int) : sIx n d o ≤ n := by
  cases o with
  | none => exact hd
  | some v =>
    show (if v < 0 then (v + (n : Int)).toNat else min v.toNat n) ≤ n
    by_cases hv : v < 0
    · rw [if_pos hv]; omega
    · rw [if_neg hv]; exact Nat.min_le_right _ _
theorem clip_eq (v : Int) (n d : Nat) : (if v < 0 then max (v + (n : Int)) 0 else min v (n : Int)) = ((sIx n d (some v) : Nat) : Int) := by
  show (if v < 0 then max (v + (n : Int)) 0 else min v (n : Int)) = (((if v < 0 then (v + (n : Int)).toNat else min v.toNat n) : Nat) : Int)
  by_cases hv : v < 0
  · simp only [if_pos hv]; omega
  · simp only [if_neg hv]; omega
theorem adjust_gen (lo hi : Option Int) (n : Nat) : Builtin.Slice.sliceAdjust lo hi 1 (n : Int) = (((sIx n 0 lo : Nat) : Int), ((sIx n n hi : Nat) : Int)) := by
  have h1 : ¬ ((1 : Int) < 0) := by omega
  unfold Builtin.Slice.sliceAdjust
  simp only [h1, if_false]
  refine Prod.ext ?_ ?_
  · cases lo with
    | none => rfl
    | some v => exact clip_eq v n 0
  · cases hi with
    | none => rfl
    | some v => exact clip_eq v n n
theorem places_gen (i j : Nat) : Builtin.Slice.slicePlaces (i : Int) (j : Int) 1 = j - i := by
  unfold Builtin.Slice.slicePlaces
  have h1 : (1 : Int) > 0 := by omega
  simp only [h1, if_true, Int.ediv_one]
  split <;> omega
theorem slicePart_ {v : Value} {o : Option Int} {Q : Option Int → Shared → Prop} (p : IsPart v o) (h : Q o s) : wpAny (model prog w) A (Builtin.Slice.slicePartIndex v) Q E s := by
  cases p with
  | none => exact slicePart_none h
  | int i t => exact slicePart_int h
theorem sliceApplied_gen {sl : Addr} {vl vu : Value} {lo hi : Option Int} {n : Nat} {Q : Int × Int × Nat → Shared → Prop} (hs : s.heap.IsSliceOf sl vl vu .none) (pl : IsPart vl lo) (pu : IsPart vu hi)
    (h : Q (((sIx n 0 lo : Nat) : Int), 1, sIx n n hi - sIx n 0 lo) s) : wpAny (model prog w) A (Builtin.Slice.sliceApplied (.ref sl) (pure (n : Int))) Q E s := by
  obtain ⟨os, hos, hcs, hds⟩ := id hs
  unfold Builtin.Slice.sliceApplied Builtin.Slice.sliceFields
  refine wpAny_bind (wpAny_bind (wpAny_field hos hds (x := vl) rfl (wpAny_bind (wpAny_field hos hds (x := vu) rfl (wpAny_bind (wpAny_field hos hds (x := .none) rfl (wpAny_pure ?_)))))))
  refine wpAny_bind (slicePart_none ?_)
  show wpAny _ _ (if ((1 : Int) == 0) = true then _ else _) _ _ s
  rw [if_neg (by decide)]
  refine wpAny_bind (slicePart_ pl (wpAny_bind (slicePart_ pu (wpAny_bind (wpAny_pure ?_)))))
  show wpAny _ _ (match Builtin.Slice.sliceAdjust lo hi 1 (n : Int) with | (lo, hi) => pure (lo, (1 : Int), Builtin.Slice.slicePlaces lo hi 1)) _ _ s
  rw [adjust_gen lo hi n]
  show wpAny _ _ (pure (((sIx n 0 lo : Nat) : Int), (1 : Int), Builtin.Slice.slicePlaces ((sIx n 0 lo : Nat) : Int) ((sIx n n hi : Nat) : Int) 1)) _ _ s
  rw [places_gen]
  exact wpAny_pure h
theorem pick_gen (xs : Array Value) (i k : Nat) : ((List.range k).filterMap fun (m : Nat) => xs[((i : Int) + (m : Int) * 1).toNat]?).toArray = ((xs.toList.drop i).take k).toArray := by
  have e : (fun (m : Nat) => xs[((i : Int) + (m : Int) * 1).toNat]?) = fun m => xs[i + m]? := by
    funext m
    have : ((i : Int) + (m : Int) * 1).toNat = i + m := by omega
    rw [this]
  rw [e]
  have := pick_run xs i k
  rw [List.filterMap_map] at this
  have e2 : ((fun x => xs[x]?) ∘ fun x => i + x) = fun m => xs[i + m]? := rfl
  rw [e2] at this
  rw [this]

theorem getItem_tuple_cut {t sl : Addr} {items : Array Value} {vl vu : Value} {lo hi : Option Int} {Q : Value → Shared → Prop} (ht : IsTup s.heap t items) (hs : s.heap.IsSliceOf sl vl vu .none) (pl : IsPart vl lo) (pu : IsPart vu hi)
    (hw : ¬ (sIx items.size 0 lo = 0 ∧ sIx items.size items.size hi = items.size))
    (h : Q (.ref s.heap.objs.size) { s with heap := s.heap.push { cls := .type "tuple", data := .seq ((items.toList.drop (sIx items.size 0 lo)).take (sIx items.size items.size hi - sIx items.size 0 lo)).toArray } })
    (hsz : items.size ≤ sizeLine) : wpAny (model prog w) A (getItem (.ref t) (.ref sl)) Q E s := by
  have htake : sizeOk (.seq ((items.toList.drop (sIx items.size 0 lo)).take (sIx items.size items.size hi - sIx items.size 0 lo)).toArray) := by
    show ((items.toList.drop (sIx items.size 0 lo)).take (sIx items.size items.size hi - sIx items.size 0 lo)).toArray.size ≤ sizeLine
    rw [List.size_toArray, List.length_take, List.length_drop, Array.length_toList]
    omega
  have hj : sIx items.size items.size hi ≤ items.size := sIx_le _ _ (Nat.le_refl _) hi
  obtain ⟨os, hos, hcs, hds⟩ := id hs
  have hTs : s.TypeIs (.ref sl) "slice" := ⟨os, hos, hcs⟩
  unfold getItem
  try with_reducible refine wpAny_holding ?_
  first | refine wpAny_bind (wpAny_pure ?_) | skip
  refine wpAny_bind (wpAny_sequenceKey ht.typeIs (by decide) ?_)
  refine wpAny_bind (wpAny_callSpecial?_slot (name := Str.ofString "__getitem__") ht.typeIs PyProof.Rows.slot_tuple_getitem
    (wpAny_call_entry PyProof.Rows.slot_tuple_getitem ht.typeIs entry_tuple_getitem ?_ (args_tuple_getitem _ _)))
  show wpAny _ _ (Builtin.Tuple.tupleItemsOf (.ref t) >>= _) _ _ s
  refine wpAny_bind (tupleItemsOf_ ht ?_)
  refine wpAny_bind (wpAny_typeOf hTs ?_)
  rw [if_pos (by decide)]
  refine wpAny_bind (sliceApplied_gen hs pl pu ?_)
  have hno : ¬ ((((sIx items.size 0 lo : Nat) : Int) == 0 && (1 : Int) == 1 && (sIx items.size items.size hi - sIx items.size 0 lo) == items.size) = true) := by
    intro q
    rw [Bool.and_eq_true, Bool.and_eq_true] at q
    have q1 : ((sIx items.size 0 lo : Nat) : Int) = 0 := eq_of_beq q.1.1
    have q2 : sIx items.size items.size hi - sIx items.size 0 lo = items.size := eq_of_beq q.2
    exact hw ⟨by omega, by omega⟩
  show wpAny _ _ (if (((sIx items.size 0 lo : Nat) : Int) == 0 && (1 : Int) == 1 && (sIx items.size items.size hi - sIx items.size 0 lo) == items.size) = true then _ else _) _ _ s
  rw [if_neg hno, pick_gen]
  first
    | exact wpAny_bind (m := Builtin.Tuple.tupleExact _) (wpAny_newObj_type (wpAny_pure ⟨_, rfl, wpAny_pure h⟩) htake)
    | exact wpAny_bind (m := Builtin.Tuple.tupleExact _) (wpAny_newObj_type (wpAny_bind (wpAny_pure (wpAny_pure ⟨_, rfl, wpAny_pure h⟩))) htake)
    | exact wpAny_bind (wpAny_bind (m := Builtin.Tuple.tupleExact _) (wpAny_newObj_type (wpAny_pure (wpAny_pure ⟨_, rfl, wpAny_pure h⟩)) htake))
    | exact wpAny_bind (wpAny_bind (m := Builtin.Tuple.tupleExact _) (wpAny_newObj_type (wpAny_pure ⟨_, rfl, wpAny_pure h⟩) htake))
end
end HT

namespace L2
open PySem PySem.Spec PyProof.Rows

/-! ### the parts of a slice -/
abbrev TO := St → Hp → (Option Int → Hp → Prop) → Prop
/-- a slice's part (left out, or an int) -/
def PO (X : Cx) (e : Option Expr) (t : TO) : Prop :=
  ∀ (pins : List (Addr × Obj)) (s : Shared) (σ : St) (H : Hp) (Q : Option Int → Hp → Prop), Inv X pins σ H s → t σ H Q →
    wpAny (model X.prog X.w) X.A (evalPart e X.env) (fun u s' => ∃ o H', Inv X pins σ H' s' ∧ IsPart u o ∧ Q o H') X.xe s
def tNoPart : TO := fun _ H Q => Q none H
def tPart (t : TE) : TO := fun σ H Q => t σ H fun x H1 => ∃ i, x = .int i ∧ Q (some i) H1

theorem intsAre_of {ns : List Int} : ∀ {us : List Value}, Vals (ns.map V.int) us → IntsAre us ns := by
  induction ns with
  | nil => intro us r; rw [List.map_nil] at r; cases r; exact .nil
  | cons n ns ih =>
    intro us r
    rw [List.map_cons] at r
    cases r with
    | cons r1 r2 =>
      obtain ⟨t, e⟩ := r1
      subst e
      exact .cons n t (ih r2)

section
variable {X : Cx} {e : Expr} {te : TE} {lo hi : Option Expr} {tl th : TO} {pos p2 : Pos}

theorem po_none : PO X none tNoPart := by
  intro pins s σ H Q I h
  rw [evalPart_none]
  exact wpAny_pure ⟨none, H, I, .none, h⟩
theorem po_some (h : PE X e te) : PO X (some e) (tPart te) := by
  intro pins s σ H Q I hw
  rw [evalPart_some]
  refine thn (h pins s σ H _ I hw) fun u s1 ⟨x, H1, I1, r1, q1⟩ => ?_
  obtain ⟨i, rfl, q⟩ := q1
  obtain ⟨t, rfl⟩ := r1
  exact ⟨some i, H1, I1, .int i t, q⟩

/-- what a slice of a value is, by values: the slice object stands at sl -/
def SlR (X : Cx) (r : V → Option Int → Option Int → Hp → VK → Prop) : Prop :=
  ∀ (pins : List (Addr × Obj)) (s : Shared) (σ : St) (H : Hp) (x : V) (v vl vu : Value) (lo hi : Option Int) (sl : Addr) (Q : VK), Inv X pins σ H s → RelV x v → s.heap.IsSliceOf sl vl vu .none → IsPart vl lo → IsPart vu hi → r x lo hi H Q →
    ∃ T id, typeLookup (.type T) "__getitem__" = pure (some (.builtin id)) ∧ s.TypeIs v T ∧ wpAny (model X.prog X.w) X.A (getItem v (.ref sl)) (EP X pins σ Q) X.xe s
theorem SlR.or {r r' : V → Option Int → Option Int → Hp → VK → Prop} (h : SlR X r) (h' : SlR X r') : SlR X (fun x lo hi H Q => r x lo hi H Q ∨ r' x lo hi H Q) := by
  intro pins s σ H x v vl vu lo hi sl Q I rx hs pl pu q
  rcases q with q | q
  · exact h pins s σ H x v vl vu lo hi sl Q I rx hs pl pu q
  · exact h' pins s σ H x v vl vu lo hi sl Q I rx hs pl pu q
def tSl (r : V → Option Int → Option Int → Hp → VK → Prop) (te : TE) (tl th : TO) : TE := fun σ H Q => te σ H fun x H1 => tl σ H1 fun l H2 => th σ H2 fun u H3 => r x l u H3 Q
/-- a[lo:hi], any a -/
theorem pe_slice {r : V → Option Int → Option Int → Hp → VK → Prop} (hr : SlR X r) (he : PE X e te) (hl : PO X lo tl) (hu : PO X hi th) : PE X (.Subscript e (.Slice lo hi none p2) pos) (tSl r te tl th) := by
  intro pins s σ H Q I h
  refine Subscript_ (thn (he pins s σ H _ I h) fun v s1 ⟨x, H1, I1, r1, q1⟩ => ?_)
  refine wpAny_Slice (thn (hl pins s1 σ H1 _ I1 q1) fun vl s2 ⟨l, H2, I2, pl, q2⟩ => thn (hu pins s2 σ H2 _ I2 q2) fun vu s3 ⟨u, H3, I3, pu, q3⟩ => ?_)
  rw [evalPart_none]
  refine wpAny_pure ?_
  have I4 : Inv X pins σ H3 { s3 with heap := s3.heap.push { cls := .type "slice", data := .fields #[vl, vu, .none] } } := I3.kept (t' := s3.toks) fun b ob q => Heap.get?_push_of_some _ q
  obtain ⟨T, id, hT, ht, hg⟩ := hr pins { s3 with heap := s3.heap.push { cls := .type "slice", data := .fields #[vl, vu, .none] } } σ H3 x v vl vu l u s3.heap.objs.size Q I4 r1 (Heap.IsSliceOf.new ..) pl pu q3
  show wpAny (model X.prog X.w) X.A (subscriptTail e (.Slice lo hi none p2) v (.ref s3.heap.objs.size)) (EP X pins σ Q) X.xe { s3 with heap := s3.heap.push { cls := .type "slice", data := .fields #[vl, vu, .none] } }
  exact tail_any (ops := [.ref s3.heap.objs.size, v]) ht hT hg (by with_unfolding_all rfl)

/-- the items of xs[lo:hi] -/
def cutV (xs : List V) (lo hi : Option Int) : List V := (xs.drop (HT.sIx xs.length 0 lo)).take (HT.sIx xs.length xs.length hi - HT.sIx xs.length 0 lo)
theorem cutV_length (xs : List V) (lo hi : Option Int) : (cutV xs lo hi).length ≤ xs.length := by
  unfold cutV
  rw [List.length_take, List.length_drop]
  omega
/-- t[lo:hi], not the whole of it (the whole would be t itself) -/
def rSlT (K : PySem.W.Frag) : V → Option Int → Option Int → Hp → VK → Prop := fun x lo hi H Q => ∃ a xs, x = .ref a ∧ SqT K H a xs ∧
  ¬ (HT.sIx xs.length 0 lo = 0 ∧ HT.sIx xs.length xs.length hi = xs.length) ∧ ∀ p, H p = none → Q (.ref p) (upd H p (.tup (cutV xs lo hi)))
theorem sl_tup : SlR X (rSlT X.K) := by
  intro pins s σ H x v vl vu lo hi sl Q I rx hs pl pu h
  obtain ⟨a, xs, rfl, hx, hw, q⟩ := h
  cases rx
  obtain ⟨its, r, ht, hz⟩ := I.tuple hx
  have hlen : its.toArray.size = xs.length := by rw [List.size_toArray]; exact r.length.symm
  refine ⟨"tuple", _, PyProof.Rows.slot_tuple_getitem.lookup, ht.typeIs, ?_⟩
  refine HT.getItem_tuple_cut ht hs pl pu (by rw [hlen]; exact hw) ?_ (by rw [hlen]; exact hz)
  rw [hlen]
  refine ⟨.ref s.heap.objs.size, _, I.laid (t' := s.toks) (o := .tup (cutV xs lo hi)) (fun b ob q => Heap.get?_push_of_some _ q) (Nat.le_refl _) ?_, rfl, q _ (I.hok.fresh (Nat.le_refl _))⟩
  exact ⟨Nat.le_trans (cutV_length xs lo hi) hz, _, (r.drop (HT.sIx xs.length 0 lo)).take (HT.sIx xs.length xs.length hi - HT.sIx xs.length 0 lo), IsTup.new _ _⟩

/-! ### t < u, t + u -/
def rLtT (K : PySem.W.Frag) : R2 := fun x y H Q => ∃ a b ns ms, x = .ref a ∧ y = .ref b ∧ SqT K H a (ns.map V.int) ∧ SqT K H b (ms.map V.int) ∧ Q (.bl (HT.lexLt ns ms)) H
theorem op_ltT (hu : X.A.units < cLine) : OpR X (compareOp .Lt) (rLtT X.K) := by
  intro pins s σ H x y v u Q I rx ry h
  obtain ⟨a, b, ns, ms, rfl, rfl, ha, hb, q⟩ := h
  cases rx
  cases ry
  obtain ⟨its, r1, p1, _⟩ := I.tuple ha
  obtain ⟨its2, r2, p2, _⟩ := I.tuple hb
  have i1 : IntsAre its.toArray.toList ns := intsAre_of r1
  have i2 : IntsAre its2.toArray.toList ms := intsAre_of r2
  exact HT.lt_tupInts p1 p2 i1 i2 hu ⟨.bl (HT.lexLt ns ms), H, I, rfl, q⟩
/-- t + u, t not empty: u empty gives t itself -/
def rCatT (K : PySem.W.Frag) : R2 := fun x y H Q => ∃ a b xs ys, x = .ref a ∧ y = .ref b ∧ SqT K H a xs ∧ SqT K H b ys ∧ xs ≠ [] ∧ xs.length + ys.length ≤ sizeLine ∧
  (ys = [] → Q (.ref a) H) ∧ (ys ≠ [] → ∀ p, H p = none → Q (.ref p) (upd H p (.tup (xs ++ ys))))
theorem Vals.nil_iff {xs : List V} {us : List Value} (r : Vals xs us) : us = [] ↔ xs = [] := by
  cases r with
  | nil => simp
  | cons _ _ => simp
theorem op_catT : OpR X (binaryOp .Add) (rCatT X.K) := by
  intro pins s σ H x y v u Q I rx ry h
  obtain ⟨a, b, xs, ys, rfl, rfl, ha, hb, hx, hz, q1, q2⟩ := h
  cases rx
  cases ry
  obtain ⟨its, r1, p1, _⟩ := I.tuple ha
  obtain ⟨its2, r2, p2, _⟩ := I.tuple hb
  refine HT.cat_tup p1 p2 (fun z => hx (r1.nil_iff.mp z)) (fun z => ⟨.ref a, H, I, rfl, q1 (r2.nil_iff.mp z)⟩) (fun z => ?_) (by rw [← r1.length, ← r2.length]; exact hz)
  refine ⟨.ref s.heap.objs.size, _, I.laid (t' := s.toks) (o := .tup (xs ++ ys)) (fun b ob q => Heap.get?_push_of_some _ q) (Nat.le_refl _) ?_, rfl, q2 (fun w => z (r2.nil_iff.mpr w)) _ (I.hok.fresh (Nat.le_refl _))⟩
  exact ⟨by rw [List.length_append]; exact hz, _, r1.append r2, IsTup.new _ _⟩
/-- tuple(t) -/
theorem call_tupleT : CallR X (.type "tuple") (fun xs H Q => ∃ a ys, xs = [.ref a] ∧ SqT X.K H a ys ∧ Q (.ref a) H) := by
  intro pins s σ H xs us Q I r h
  obtain ⟨a, ys, rfl, ha, q⟩ := h
  obtain ⟨u, rfl, ru⟩ := vals1 r
  cases ru
  obtain ⟨its, _, p1, _⟩ := I.tuple ha
  exact call_tuple_same (items := its.toArray) p1 ⟨.ref a, H, I, rfl, q⟩
end
end L2

namespace L2
open PySem PySem.Spec PyProof.Rows

/-! ### places -/
/-- the place that an index of any sign means -/
def ixN (n : Nat) (i : Int) : Option Nat := if 0 ≤ i then (if i < n then some i.toNat else none) else if -(n : Int) ≤ i then some (i + n).toNat else none
def atI {α : Type} (xs : List α) (i : Int) : Option α := (ixN xs.length i).bind fun j => xs[j]?
theorem ixN_seq {n : Nat} {i : Int} {j : Nat} (h : ixN n i = some j) : seqIndex? i n = some j ∧ j < n ∧ -(n : Int) ≤ i ∧ i < n := by
  unfold ixN at h
  by_cases h0 : 0 ≤ i
  · rw [if_pos h0] at h
    by_cases h1 : i < n
    · rw [if_pos h1] at h
      have e : i.toNat = j := Option.some.inj h
      exact ⟨by rw [seqIndex_of h0 h1, e], by omega, by omega, h1⟩
    · rw [if_neg h1] at h; cases h
  · rw [if_neg h0] at h
    by_cases h1 : -(n : Int) ≤ i
    · rw [if_pos h1] at h
      have e : (i + n).toNat = j := Option.some.inj h
      exact ⟨by rw [seqIndex_neg (by omega) h1, e], by omega, h1, by omega⟩
    · rw [if_neg h1] at h; cases h
theorem atI_get {α : Type} {xs : List α} {i : Int} {v : α} (h : atI xs i = some v) : ∃ j, seqIndex? i xs.length = some j ∧ xs[j]? = some v ∧ j < xs.length ∧ -(xs.length : Int) ≤ i ∧ i < xs.length := by
  unfold atI at h
  cases e : ixN xs.length i with
  | none => rw [e] at h; cases h
  | some j =>
    rw [e] at h
    obtain ⟨h1, h2, h3, h4⟩ := ixN_seq e
    exact ⟨j, h1, h, h2, h3, h4⟩
theorem atI_nat {α : Type} {xs : List α} {j : Nat} {v : α} (h : xs[j]? = some v) : atI xs (j : Int) = some v := by
  have hj : j < xs.length := (List.getElem?_eq_some_iff.mp h).1
  have e : ixN xs.length (j : Int) = some j := by
    unfold ixN
    rw [if_pos (by omega), if_pos (by omega)]; simp
  unfold atI; rw [e]; exact h
theorem atI_last {α : Type} (xs : List α) (v : α) : atI (xs ++ [v]) (-1) = some v := by
  have hl : (xs ++ [v]).length = xs.length + 1 := by simp
  have e : ixN (xs ++ [v]).length (-1) = some xs.length := by
    unfold ixN
    rw [hl, if_neg (by decide), if_pos (by omega)]
    congr 1
    omega
  unfold atI
  rw [e]
  show (xs ++ [v])[xs.length]? = some v
  simp

/-! ### what may be subscripted -/
/-- what stands as an index of a plain subscript -/
def PlainIx (b : Expr) : Prop := ∀ o i, subscripted b false o i = operate [o, i] (getItem o i)
/-- a subscript by values -/
def IxR (X : Cx) (r : R2) : Prop :=
  ∀ (value slice : Expr) (pins : List (Addr × Obj)) (s : Shared) (σ : St) (H : Hp) (x y : V) (v u : Value) (Q : VK), Inv X pins σ H s → RelV x v → RelV y u → r x y H Q →
    subscripted slice false v u = operate [v, u] (getItem v u) → wpAny (model X.prog X.w) X.A (subscriptTail value slice v u) (EP X pins σ Q) X.xe s
/-- a call of a builtin's method by values: the receiver, the arguments -/
def MtR (X : Cx) (id : String) (r : V → List V → Hp → VK → Prop) : Prop :=
  ∀ (pins : List (Addr × Obj)) (s : Shared) (σ : St) (H : Hp) (x : V) (xs : List V) (v : Value) (us : List Value) (Q : VK), Inv X pins σ H s → RelV x v → Vals xs us → r x xs H Q →
    wpAny (model X.prog X.w) X.A (call (.builtin id) (v :: us)) (EP X pins σ Q) X.xe s
section
variable {X : Cx} {a b : Expr} {ta tb : TE} {pos : Pos}
theorem IxR.or {r r' : R2} (h : IxR X r) (h' : IxR X r') : IxR X (fun x y H Q => r x y H Q ∨ r' x y H Q) := by
  intro value slice pins s σ H x y v u Q I rx ry q hs
  rcases q with q | q
  · exact h value slice pins s σ H x y v u Q I rx ry q hs
  · exact h' value slice pins s σ H x y v u Q I rx ry q hs
theorem MtR.or {id : String} {r r' : V → List V → Hp → VK → Prop} (h : MtR X id r) (h' : MtR X id r') : MtR X id (fun x xs H Q => r x xs H Q ∨ r' x xs H Q) := by
  intro pins s σ H x xs v us Q I rx rs q
  rcases q with q | q
  · exact h pins s σ H x xs v us Q I rx rs q
  · exact h' pins s σ H x xs v us Q I rx rs q
/-- a[b] -/
theorem pe_ix {r : R2} (hr : IxR X r) (ha : PE X a ta) (hb : PE X b tb) (hs : PlainIx b) : PE X (.Subscript a b pos) (tOp r ta tb) := by
  intro pins s σ H Q I h
  exact Subscript_ (binT ha hb I h fun v u s2 x y H2 I2 rx ry q => hr a b pins s2 σ H2 x y v u Q I2 rx ry q (hs _ _))

def rIxL (K : PySem.W.Frag) : R2 := fun x y H Q => ∃ p xs i v, x = .ref p ∧ y = .int i ∧ SqL K H p xs ∧ atI xs i = some v ∧ Q v H
def rIxT (K : PySem.W.Frag) : R2 := fun x y H Q => ∃ p xs i v, x = .ref p ∧ y = .int i ∧ SqT K H p xs ∧ atI xs i = some v ∧ Q v H
def rIxS : R2 := fun x y H Q => ∃ z i c, x = .str z ∧ y = .int i ∧ z.length ≤ sizeLine ∧ atI z.cps.toList i = some c ∧ Q (.str ⟨#[c]⟩) H
theorem ix_list : IxR X (rIxL X.K) := by
  intro value slice pins s σ H x y v u Q I rx ry h hs
  obtain ⟨p, xs, i, z, rfl, rfl, hq, he, q⟩ := h
  cases rx
  obtain ⟨t, rfl⟩ := ry
  obtain ⟨its, r, pl, hz⟩ := I.list hq
  obtain ⟨j, h1, h2, h3, h4, h5⟩ := atI_get he
  obtain ⟨w, ew, rw'⟩ := r.get h2
  have hl := r.length
  have hn := line63
  have fin : EP X pins σ Q w s := ⟨z, H, I, rw', q⟩
  by_cases h0 : 0 ≤ i
  · have hj : i.toNat = j := by
      rw [seqIndex_of h0 h5] at h1
      exact Option.some.inj h1
    exact item_listR pl.isList h0 (by omega) (by rw [hj]; simpa using ew) fin hs
  · have hj : (i + (its.toArray.size : Int)).toNat = j := by
      rw [seqIndex_neg (by omega) h4] at h1
      rw [List.size_toArray, ← hl]
      exact Option.some.inj h1
    exact subscriptTail_builtinR (x := w) pl.isList.typeIs slot_list_getitem.lookup
      (wpAny_getItem_list_neg (Q := fun r s' => r = w ∧ EP X pins σ Q r s') pl.isList (by omega) (by rw [List.size_toArray] <;> omega) (by omega) (by rw [hj]; simpa using ew) ⟨rfl, fin⟩) hs
theorem ix_tup : IxR X (rIxT X.K) := by
  intro value slice pins s σ H x y v u Q I rx ry h hs
  obtain ⟨p, xs, i, z, rfl, rfl, hq, he, q⟩ := h
  cases rx
  obtain ⟨t, rfl⟩ := ry
  obtain ⟨its, r, pl, hz⟩ := I.tuple hq
  obtain ⟨j, h1, h2, h3, h4, h5⟩ := atI_get he
  obtain ⟨w, ew, rw'⟩ := r.get h2
  have hl := r.length
  have hn := line63
  have fin : EP X pins σ Q w s := ⟨z, H, I, rw', q⟩
  exact subscriptTail_builtinR (x := w) pl.typeIs slot_tuple_getitem.lookup
    (getItem_tuple (j := j) (Q := fun r s' => r = w ∧ EP X pins σ Q r s') pl (by omega) (by omega) (by rw [List.size_toArray, ← hl]; exact h1) (by simpa using ew) ⟨rfl, fin⟩) hs
theorem ix_str : IxR X rIxS := by
  intro value slice pins s σ H x y v u Q I rx ry h hs
  obtain ⟨z, i, c, rfl, rfl, hz, he, q⟩ := h
  obtain ⟨t, rfl⟩ := rx
  obtain ⟨t', rfl⟩ := ry
  obtain ⟨j, h1, h2, h3, h4, h5⟩ := atI_get he
  have hl : z.cps.toList.length = z.length := by simp [Str.length]
  rw [hl] at h1 h4 h5
  have hn := line63
  exact tail_any (typeIs_str s z t) slot_str_getitem.lookup (getItem_str (c := c) (by
    have e1 : decide (i < -(2 ^ 63 : Int)) = false := decide_eq_false (by omega)
    have e2 : decide (i ≥ 2 ^ 63) = false := decide_eq_false (by omega)
    rw [e1, e2, Bool.or_false]) (by rw [h1]; simpa using h2) ⟨.str ⟨#[c]⟩, H, I.tok _, ⟨_, rfl⟩, q⟩) hs
/-- list, tuple or str -/
def rIx (K : PySem.W.Frag) : R2 := fun x y H Q => rIxL K x y H Q ∨ rIxT K x y H Q ∨ rIxS x y H Q
theorem ix_seq : IxR X (rIx X.K) := ix_list.or (ix_tup.or ix_str)

/-! ### xs[i] = v, any sign -/
/-- the list's object behind a store -/
theorem mapSeq_set (its : List Value) (n j : Nat) (u : Value) : Obj.mapSeq (·.setIfInBounds j u) { cls := .type "list", data := .seq its.toArray n } = { cls := .type "list", data := .seq (its.set j u).toArray n } := by
  simp [Obj.mapSeq]
theorem Inv.lst {pins : List (Addr × Obj)} {σ : St} {H : Hp} {s : Shared} {p : Addr} {xs : List V} (I : Inv X pins σ H s) (h : H p = some (.lst xs)) :
    ∃ (its : List Value) (n : Nat), Vals xs its ∧ s.heap.get? p = some { cls := .type "list", data := .seq its.toArray n } ∧ xs.length ≤ sizeLine := by
  obtain ⟨z, its, n, r, e⟩ := I.hok p _ h
  exact ⟨its, n, r, e, z⟩
/-- the list at p is written by an update of its object -/
theorem Inv.lstUpd {pins : List (Addr × Obj)} {σ : St} {H : Hp} {s : Shared} {p : Addr} {xs ys : List V} {its its' : List Value} {n n' : Nat} {f : Obj → Obj} (I : Inv X pins σ H s) (h : H p = some (.lst xs))
    (ho : s.heap.get? p = some { cls := .type "list", data := .seq its.toArray n }) (hf : f { cls := .type "list", data := .seq its.toArray n } = { cls := .type "list", data := .seq its'.toArray n' }) (r : Vals ys its') (hz : ys.length ≤ sizeLine) (t : Nat) :
    Inv X pins σ (upd H p (.lst ys)) { s with heap := s.heap.update p f, toks := t } := by
  have e : (s.heap.update p f).get? p = some { cls := .type "list", data := .seq its'.toArray n' } := by
    rw [Heap.get?_update_self f ho (by rw [hf] <;> rfl), hf]
  refine I.write (x := p) (e := p) (by rw [h]; trivial) (.inl rfl) (fun b u hb q => (Heap.get?_update_other _ _ (Ne.symm hb)).trans q) ⟨_, e⟩ ?_
  exact ⟨hz, its', n', r, e⟩
def rSetL : V → V → V → Hp → (Hp → Prop) → Prop := fun o i v H Q => ∃ p xs k j, o = .ref p ∧ i = .int k ∧ H p = some (.lst xs) ∧ ixN xs.length k = some j ∧ Q (upd H p (.lst (xs.set j v)))
theorem set_list : PSet X rSetL := by
  intro pins s σ H o i v ov iv u Q I ro ri rv h
  obtain ⟨p, xs, k, j, rfl, rfl, hp, hj, q⟩ := h
  cases ro
  obtain ⟨t, rfl⟩ := ri
  obtain ⟨its, n, r, ho, hz⟩ := I.lst hp
  obtain ⟨h1, h2, h3, h4⟩ := ixN_seq hj
  have hl := r.length
  have hn := line63
  have I' : Inv X pins σ (upd H p (.lst (xs.set j v))) { s with heap := s.heap.update p (Obj.mapSeq (·.setIfInBounds j u)) } :=
    I.lstUpd hp ho (mapSeq_set its n j u) (r.set rv j) (by rw [List.length_set]; exact hz) s.toks
  by_cases h0 : 0 ≤ k
  · have hk : k.toNat = j := by
      rw [seqIndex_of h0 h4] at h1
      exact Option.some.inj h1
    exact PySem.W.ki_setAt ho h0 (by omega) (by rw [List.size_toArray, ← hl]; exact h4) (by rw [hk]; exact ⟨_, I', q⟩)
  · have hk : (k + (its.toArray.size : Int)).toNat = j := by
      rw [seqIndex_neg (by omega) h3] at h1
      rw [List.size_toArray, ← hl]
      exact Option.some.inj h1
    exact PySem.W.ki_setBack ho (by omega) (by rw [List.size_toArray, ← hl]; exact h3) (by omega) (by rw [hk]; exact ⟨_, I', q⟩)

/-! ### slices -/
theorem slice_bounds (lo hi : Option Int) (n : Nat) : (sliceBounds lo hi none n).1 = ((HT.sIx n 0 lo : Nat) : Int) ∧ (sliceBounds lo hi none n).2.1 = ((HT.sIx n n hi : Nat) : Int) ∧ (sliceBounds lo hi none n).2.2 = 1 := by
  refine ⟨?_, ?_, rfl⟩
  · cases lo with
    | none => simp [sliceBounds, HT.sIx]
    | some i =>
      simp only [sliceBounds, HT.sIx, Option.getD_none, show (1 : Int) > 0 by decide, if_true]
      by_cases h : i < 0
      · simp only [h, if_true] <;> omega
      · simp only [h, if_false] <;> omega
  · cases hi with
    | none => simp [sliceBounds, HT.sIx]
    | some i =>
      simp only [sliceBounds, HT.sIx, Option.getD_none, show (1 : Int) > 0 by decide, if_true]
      by_cases h : i < 0
      · simp only [h, if_true] <;> omega
      · simp only [h, if_false] <;> omega
theorem slicePick_cut (its : List Value) (lo hi : Option Int) : slicePick its.toArray lo hi none = ((its.drop (HT.sIx its.length 0 lo)).take (HT.sIx its.length its.length hi - HT.sIx its.length 0 lo)).toArray := by
  obtain ⟨h1, h2, h3⟩ := slice_bounds lo hi its.toArray.size
  unfold slicePick
  rw [h1, h2, h3]
  simp only [sliceRange_one, pick_run, List.size_toArray] <;> rfl
/-- xs[lo:hi] of a list: a new list -/
def rSlL (K : PySem.W.Frag) : V → Option Int → Option Int → Hp → VK → Prop := fun x lo hi H Q => ∃ a xs, x = .ref a ∧ SqL K H a xs ∧ ∀ p, H p = none → Q (.ref p) (upd H p (.lst (cutV xs lo hi)))
theorem sl_list : SlR X (rSlL X.K) := by
  intro pins s σ H x v vl vu lo hi sl Q I rx hs pl pu h
  obtain ⟨a, xs, rfl, hx, q⟩ := h
  cases rx
  obtain ⟨its, r, ht, hz⟩ := I.list hx
  have hlen := r.length
  refine ⟨"list", _, slot_list_getitem.lookup, ht.isList.typeIs, ?_⟩
  refine wpAny_getItem_list_slice ht.isList hs pl pu .none (by simp) ?_ (by rw [List.size_toArray] <;> omega)
  rw [slicePick_cut, ← hlen]
  refine ⟨.ref s.heap.objs.size, _, I.laid (t' := s.toks) (o := .lst (cutV xs lo hi)) (fun b ob q => Heap.get?_push_of_some _ q) (Nat.le_refl _) ?_, rfl, q _ (I.hok.fresh (Nat.le_refl _))⟩
  exact ⟨Nat.le_trans (cutV_length xs lo hi) hz, _, 0, (r.drop (HT.sIx xs.length 0 lo)).take (HT.sIx xs.length xs.length hi - HT.sIx xs.length 0 lo), Heap.get?_push_size _ rfl⟩

/-! ### in, not in: flat items -/
def flatV : V → Bool
  | .non => true
  | .bl _ => true
  | .int _ => true
  | .str _ => true
  | _ => false
/-- == of flat values -/
def eqV : V → V → Bool
  | .non, .non => true
  | .bl a, .bl b => a == b
  | .bl a, .int b => (if a then 1 else 0) == b
  | .int a, .bl b => a == (if b then 1 else 0)
  | .int a, .int b => a == b
  | .str a, .str b => a == b
  | _, _ => false
theorem eqAt_V {A : Around} {s : Shared} {y x : V} {u v : Value} (ry : RelV y u) (rx : RelV x v) (fy : flatV y = true) (fx : flatV x = true) : SeqAt.EqAt A s u v (eqV y x) := by
  cases y with
  | non =>
    cases ry
    cases x with
    | non => cases rx; exact SeqAt.EqAt.same _
    | bl b => cases rx; exact SeqAt.EqAt.none_bool b
    | int b => obtain ⟨t, rfl⟩ := rx; exact SeqAt.EqAt.none_int b t
    | str b => obtain ⟨t, rfl⟩ := rx; exact SeqAt.EqAt.none_str b t
    | _ => exact absurd (show false = true from fx) Bool.false_ne_true
  | bl a =>
    cases ry
    cases x with
    | non => cases rx; exact SeqAt.EqAt.bool_none a
    | bl b => cases rx; exact SeqAt.EqAt.bool_bool a b
    | int b => obtain ⟨t, rfl⟩ := rx; exact SeqAt.EqAt.bool_int a b t
    | str b => obtain ⟨t, rfl⟩ := rx; exact SeqAt.EqAt.bool_str a b t
    | _ => exact absurd (show false = true from fx) Bool.false_ne_true
  | int a =>
    obtain ⟨t', rfl⟩ := ry
    cases x with
    | non => cases rx; exact SeqAt.EqAt.int_none a t'
    | bl b => cases rx; exact SeqAt.EqAt.int_bool a t' b
    | int b => obtain ⟨t, rfl⟩ := rx; exact SeqAt.EqAt.int_int a t' b t
    | str b => obtain ⟨t, rfl⟩ := rx; exact SeqAt.EqAt.int_str a t' b t
    | _ => exact absurd (show false = true from fx) Bool.false_ne_true
  | str a =>
    obtain ⟨t', rfl⟩ := ry
    cases x with
    | non => cases rx; exact SeqAt.EqAt.str_none a t'
    | bl b => cases rx; exact SeqAt.EqAt.str_bool a t' b
    | int b => obtain ⟨t, rfl⟩ := rx; exact SeqAt.EqAt.str_int a t' b t
    | str b => obtain ⟨t, rfl⟩ := rx; exact SeqAt.EqAt.str_str a t' b t
    | _ => exact absurd (show false = true from fx) Bool.false_ne_true
  | _ => exact absurd (show false = true from fy) Bool.false_ne_true
/-- the items' answers, read off the values (a value's own answer does not lean on its token) -/
def eqU (x : V) (u : Value) : Bool := match u with
  | .none => eqV .non x
  | .bool b => eqV (.bl b) x
  | .int i _ => eqV (.int i) x
  | .str z _ => eqV (.str z) x
  | _ => false
theorem eqU_of {x y : V} {u : Value} (r : RelV y u) (f : flatV y = true) : eqU x u = eqV y x := by
  cases y with
  | non => cases r; rfl
  | bl b => cases r; rfl
  | int i => obtain ⟨t, rfl⟩ := r; rfl
  | str z => obtain ⟨t, rfl⟩ := r; rfl
  | _ => exact absurd (show false = true from f) Bool.false_ne_true
theorem any_eqU {x : V} : ∀ {xs : List V} {us : List Value}, Vals xs us → xs.all flatV = true → us.any (eqU x) = xs.any fun y => eqV y x
  | _, _, .nil, _ => rfl
  | y :: xs, u :: us, .cons r t, f => by
    rw [List.all_cons, Bool.and_eq_true] at f
    rw [List.any_cons, List.any_cons, eqU_of r f.1, any_eqU t f.2]
theorem mem_eqAt {A : Around} {s : Shared} {x : V} {v : Value} (rx : RelV x v) (fx : flatV x = true) : ∀ {xs : List V} {us : List Value}, Vals xs us → xs.all flatV = true → ∀ u ∈ us, SeqAt.EqAt A s u v (eqU x u)
  | _, _, .nil, _ => fun u hu => by cases hu
  | y :: xs, u :: us, .cons r t, f => fun u' hu => by
    rw [List.all_cons, Bool.and_eq_true] at f
    rcases List.mem_cons.mp hu with rfl | hu
    · rw [eqU_of r f.1]; exact eqAt_V r rx f.1 fx
    · exact mem_eqAt rx fx t f.2 u' hu
def inV (x : V) (xs : List V) : Bool := xs.any fun y => eqV y x
/-- x in a list or tuple of flat items -/
def rIn (K : PySem.W.Frag) (neg : Bool) : R2 := fun x y H Q => ∃ p xs, y = .ref p ∧ (SqL K H p xs ∨ SqT K H p xs) ∧ flatV x = true ∧ xs.all flatV = true ∧ Q (.bl (if neg then !inV x xs else inV x xs)) H
theorem op_in_seq : OpR X (compareOp .In) (rIn X.K false) := by
  intro pins s σ H x y v u Q I rx ry h
  obtain ⟨p, xs, rfl, hq, fx, fs, q⟩ := h
  cases ry
  rcases hq with hq | hq
  · obtain ⟨its, r, pl, hz⟩ := I.list hq
    refine SeqAt.in_listAt (eqU x) pl.isList (fun w hw => mem_eqAt rx fx r fs w (by simpa using hw)) ⟨.bl _, H, I, rfl, ?_⟩
    rw [show its.toArray.any (eqU x) = its.any (eqU x) by simp, any_eqU r fs]
    exact q
  · obtain ⟨its, r, pl, hz⟩ := I.tuple hq
    refine SeqAt.in_tupleAt (eqU x) pl (fun w hw => mem_eqAt rx fx r fs w (by simpa using hw)) ⟨.bl _, H, I, rfl, ?_⟩
    rw [show its.toArray.any (eqU x) = its.any (eqU x) by simp, any_eqU r fs]
    exact q
theorem op_notIn_seq : OpR X (compareOp .NotIn) (rIn X.K true) := by
  intro pins s σ H x y v u Q I rx ry h
  obtain ⟨p, xs, rfl, hq, fx, fs, q⟩ := h
  cases ry
  rcases hq with hq | hq
  · obtain ⟨its, r, pl, hz⟩ := I.list hq
    refine SeqAt.notIn_listAt (eqU x) pl.isList (fun w hw => mem_eqAt rx fx r fs w (by simpa using hw)) ⟨.bl _, H, I, rfl, ?_⟩
    rw [show its.toArray.any (eqU x) = its.any (eqU x) by simp, any_eqU r fs]
    exact q
  · obtain ⟨its, r, pl, hz⟩ := I.tuple hq
    refine SeqAt.notIn_tupleAt (eqU x) pl (fun w hw => mem_eqAt rx fx r fs w (by simpa using hw)) ⟨.bl _, H, I, rfl, ?_⟩
    rw [show its.toArray.any (eqU x) = its.any (eqU x) by simp, any_eqU r fs]
    exact q
theorem op_notIn_str : OpR X (compareOp .NotIn) (fun x y H Q => ∃ i j, x = .str i ∧ y = .str j ∧ Q (.bl (!(!(Builtin.Str.occurrences j i 0 j.length 1).isEmpty))) H) := by
  intro pins s σ H x y v u Q I rx ry h
  obtain ⟨i, j, rfl, rfl, q⟩ := h
  obtain ⟨t, rfl⟩ := rx
  obtain ⟨t', rfl⟩ := ry
  exact notIn_str ⟨.bl _, H, I, rfl, q⟩

/-! ### len, list(x), tuple(x) of any list or tuple that is read -/
theorem call_len_seq : CallR X (.builtin "len") (fun xs H Q => ∃ p ys, xs = [.ref p] ∧ (SqL X.K H p ys ∨ SqT X.K H p ys) ∧ Q (.int ys.length) H) := by
  intro pins s σ H xs us Q I r h
  obtain ⟨p, ys, rfl, hq, q⟩ := h
  obtain ⟨u, rfl, rx⟩ := vals1 r
  cases rx
  have hn := line63
  rcases hq with hq | hq
  · obtain ⟨its, r', pl, hz⟩ := I.list hq
    have hlen := r'.length
    exact Calls.call_len_list pl.isList (by simp only [List.size_toArray] <;> omega) ⟨.int ys.length, H, I.tok _, ⟨s.toks + 1, by rw [List.size_toArray, hlen]⟩, q⟩
  · obtain ⟨its, r', pl, hz⟩ := I.tuple hq
    have hlen := r'.length
    exact len_tuple pl (by simp only [List.size_toArray] <;> omega) ⟨.int ys.length, H, I.tok _, ⟨s.toks + 1, by rw [List.size_toArray, hlen]⟩, q⟩
theorem call_len_str : CallR X (.builtin "len") (fun xs H Q => ∃ z, xs = [.str z] ∧ z.length ≤ sizeLine ∧ Q (.int z.length) H) := by
  intro pins s σ H xs us Q I r h
  obtain ⟨z, rfl, hz, q⟩ := h
  obtain ⟨u, rfl, t, rfl⟩ := vals1 r
  have hn := line63
  exact len_str (by omega) ⟨.int z.length, H, I.tok _, ⟨_, rfl⟩, q⟩
theorem CallR.or {f : Value} {r r' : List V → Hp → VK → Prop} (h : CallR X f r) (h' : CallR X f r') : CallR X f (fun xs H Q => r xs H Q ∨ r' xs H Q) := by
  intro pins s σ H xs us Q I rs q
  rcases q with q | q
  · exact h pins s σ H xs us Q I rs q
  · exact h' pins s σ H xs us Q I rs q
theorem call_list_of : CallR X (.type "list") (fun xs H Q => ∃ p ys, xs = [.ref p] ∧ (SqL X.K H p ys ∨ SqT X.K H p ys) ∧ ∀ l, H l = none → Q (.ref l) (upd H l (.lst ys))) := by
  intro pins s σ H xs us Q I r h
  obtain ⟨p, ys, rfl, hq, q⟩ := h
  obtain ⟨u, rfl, rx⟩ := vals1 r
  cases rx
  have fin : ∀ (its : List Value), Vals ys its → ys.length ≤ sizeLine → ∀ (h' : Heap) (c' : Nat), (∀ b o', s.heap.get? b = some o' → h'.get? b = some o') →
      h'.get? s.heap.objs.size = some { cls := .type "list", dict := none, data := .seq its.toArray c', slots := #[] } → EP X pins σ Q (.ref s.heap.objs.size) { s with heap := h' } := fun its r' hz h' c' kp e =>
    ⟨.ref s.heap.objs.size, _, I.laid (t' := s.toks) kp (Nat.le_refl _) (show ObjOk X.prog X.w _ h' _ (.lst ys) from ⟨hz, its, c', r', e⟩), rfl, q _ (I.hok.fresh (Nat.le_refl _))⟩
  rcases hq with hq | hq
  · obtain ⟨its, r', pl, hz⟩ := I.list hq
    have hlen := r'.length
    obtain ⟨o, ho, hc, n, hd⟩ := pl.isList
    exact call_list_seq p (.inl rfl) ho hc hd (fun h' c' kp e => fin its r' hz h' c' kp e) (by simp only [List.size_toArray] <;> omega)
  · obtain ⟨its, r', pl, hz⟩ := I.tuple hq
    have hlen := r'.length
    obtain ⟨o, ho, hc, n, hd⟩ := pl
    exact call_list_seq p (.inr rfl) ho hc hd (fun h' c' kp e => fin its r' hz h' c' kp e) (by simp only [List.size_toArray] <;> omega)
theorem call_tuple_of : CallR X (.type "tuple") (fun xs H Q => ∃ p ys, xs = [.ref p] ∧ ((SqL X.K H p ys ∧ ∀ l, H l = none → Q (.ref l) (upd H l (.tup ys))) ∨ (SqT X.K H p ys ∧ Q (.ref p) H))) := by
  intro pins s σ H xs us Q I r h
  obtain ⟨p, ys, rfl, h⟩ := h
  obtain ⟨u, rfl, rx⟩ := vals1 r
  cases rx
  rcases h with ⟨hq, q⟩ | ⟨hq, q⟩
  · obtain ⟨its, r', pl, hz⟩ := I.list hq
    have hlen := r'.length
    refine call_tuple_list pl.isList (fun h' kp => ?_) (by simp only [List.size_toArray] <;> omega)
    have I1 : Inv X pins σ H { s with heap := h' } := I.kept (t' := s.toks) kp
    have I2 : Inv X pins σ (upd H h'.objs.size (.tup ys)) { s with heap := h'.push { cls := .type "tuple", data := .seq its.toArray } } :=
      I1.laid (t' := s.toks) (fun b o e => Heap.get?_push_of_some _ e) (Nat.le_refl _) (show ObjOk X.prog X.w _ _ _ (.tup ys) from ⟨hz, its, r', IsTup.new _ _⟩)
    exact ⟨.ref h'.objs.size, _, I2, rfl, q _ (I1.hok.fresh (Nat.le_refl _))⟩
  · obtain ⟨its, r', pl, hz⟩ := I.tuple hq
    exact call_tuple_same pl ⟨.ref p, H, I, rfl, q⟩

/-! ### the call of a builtin's method: o.m(..) -/
/-- the value is of that builtin type -/
def tyV (K : PySem.W.Frag) (T : String) (x : V) (H : Hp) : Prop := match x with
  | .str _ => T = "str"
  | .int _ => T = "int"
  | .ref p => (T = "list" ∧ ∃ xs, SqL K H p xs) ∨ (T = "tuple" ∧ ∃ o, K.lookup p = some o ∧ o.cls = .type "tuple" ∧ o.dict = none) ∨
      (T = "dict" ∧ ((∃ kvs, H p = some (.dK kvs)) ∨ ∃ kvs, H p = some (.dT kvs))) ∨ (T = "set" ∧ ∃ S n, H p = some (.set S n))
  | _ => False
theorem tyV_is {pins : List (Addr × Obj)} {σ : St} {H : Hp} {s : Shared} {T : String} {x : V} {v : Value} (I : Inv X pins σ H s) (r : RelV x v) (ty : tyV X.K T x H) :
    s.TypeIs v T ∧ ∀ a, v = .ref a → ∃ ob, s.heap.get? a = some ob ∧ ob.dict = none := by
  cases x with
  | str z =>
    obtain ⟨t, rfl⟩ := r
    cases (show T = "str" from ty)
    exact ⟨typeIs_str s z t, fun _ e => nomatch e⟩
  | int i =>
    obtain ⟨t, rfl⟩ := r
    cases (show T = "int" from ty)
    exact ⟨typeIs_int s i t, fun _ e => nomatch e⟩
  | ref p =>
    cases r
    rcases ty with ⟨rfl, xs, hq⟩ | ⟨rfl, o, hk, hc, hd⟩ | ⟨rfl, hk⟩ | ⟨rfl, S, n, hk⟩
    · obtain ⟨its, _, pl, _⟩ := I.list hq
      refine ⟨pl.isList.typeIs, fun a e => ?_⟩
      cases e
      obtain ⟨o, n, e, c, hd, _⟩ := pl
      exact ⟨o, e, hd⟩
    · refine ⟨⟨o, I.kIn p o hk, hc⟩, fun a e => ?_⟩
      cases e
      exact ⟨o, I.kIn _ o hk, hd⟩
    · have z : ∃ o, s.heap.get? p = some o ∧ o.ExactDict := by
        rcases hk with ⟨kvs, hk⟩ | ⟨kvs, hk⟩
        · obtain ⟨_, _, _, _, o, _, _, e, ex, _⟩ := I.hok p _ hk
          exact ⟨o, e, ex⟩
        · obtain ⟨_, _, _, _, o, _, _, e, ex, _⟩ := I.hok p _ hk
          exact ⟨o, e, ex⟩
      obtain ⟨o, e, ex⟩ := z
      refine ⟨⟨o, e, ex.1⟩, fun a e2 => ?_⟩
      cases e2
      exact ⟨o, e, ex.2.1⟩
    · obtain ⟨o, _, _, _, e, ex, _⟩ := I.hok p _ hk
      refine ⟨⟨o, e, ex.1⟩, fun a e2 => ?_⟩
      cases e2
      exact ⟨o, e, ex.2.1⟩
  | _ => exact False.elim ty
def tBM0 (K : PySem.W.Frag) (T : String) (r : V → List V → Hp → VK → Prop) (to : TE) : TE := fun σ H Q => to σ H fun x H1 => tyV K T x H1 ∧ r x [] H1 Q
def tBM (K : PySem.W.Frag) (T : String) (r : V → List V → Hp → VK → Prop) (to : TE) (t : TA) : TE := fun σ H Q => to σ H fun x H1 => tyV K T x H1 ∧ t σ H1 fun xs H2 => r x xs H2 Q
variable {o e : Expr} {es : List Expr} {to : TE} {t : TA} {name : Str} {apos cpos : Pos} {T id : String} {r : V → List V → Hp → VK → Prop}
theorem pe_bm0 (pa : PlainAttrs T) (slot : Slot T name id) (hty : typeOf (.builtin id) = pure (.type "method_descriptor")) (hm : MtR X id r) (ho : PE X o to)
    (hbase : attributeBase o name X.env (eval o X.env) = eval o X.env := by rfl) (hline : (apos.endLine == cpos.line) = true := by rfl) : PE X (.Call (.Attribute o name apos) [] [] cpos) (tBM0 X.K T r to) := by
  intro pins s σ H Q I h
  refine wpAny_Call_method0_late hbase hline (thn (ho pins s σ H _ I h) fun v s1 ⟨x, H1, I1, r1, ty, q1⟩ => ?_)
  obtain ⟨h1, h2⟩ := tyV_is I1 r1 ty
  exact ⟨T, id, pa, slot, hty, h1, h2, Calls.callWith_builtin rfl (PySem.evalArgs_none (hm pins s1 σ H1 x [] v [] Q I1 r1 .nil q1))⟩
theorem pe_bm (pa : PlainAttrs T) (slot : Slot T name id) (hty : typeOf (.builtin id) = pure (.type "method_descriptor")) (hm : MtR X id r) (ho : PE X o to) (ha : PA X (e :: es) t)
    (hbase : attributeBase o name X.env (eval o X.env) = eval o X.env := by rfl)
    (hfew : ((backTo cpos (starEach (e :: es) X.env)).all (fun x => !x.1) && (backToKw cpos (keywordEach [] X.env)).all (fun x => x.1.isSome)
      && decide ((e :: es).length + ([] : List Keyword).length + (if ([] : List Keyword).isEmpty then 0 else 1) < 30)) = true := by rfl)
    (hline : (apos.endLine == cpos.line) = true := by rfl) (hs : starEach (e :: es) X.env = (false, eval e X.env) :: starEach es X.env := by rfl) (hplain : (backTo cpos (starEach es X.env)).any (·.1) = false := by rfl) :
    PE X (.Call (.Attribute o name apos) (e :: es) [] cpos) (tBM X.K T r to t) := by
  intro pins s σ H Q I h
  refine wpAny_Call_method_late hbase hfew hline rfl (thn (ho pins s σ H _ I h) fun v s1 ⟨x, H1, I1, r1, ty, q1⟩ => ?_)
  obtain ⟨h1, h2⟩ := tyV_is I1 r1 ty
  refine ⟨T, id, pa, slot, hty, h1, h2, ?_⟩
  have hA := ha cpos pins s1 σ H1 _ I1 q1
  rw [hs] at hA ⊢
  refine Calls.callWith_builtin (by show (false || (backTo cpos (starEach es X.env)).any (·.1)) = false; rw [hplain] <;> rfl) (Calls.evalArgs_plain ?_)
  exact thn hA fun us s2 ⟨vs, H2, I2, r2, q2⟩ => hm pins s2 σ H2 x vs v us Q I2 r1 r2 q2
/- xs.append(e), list.index on a module's tuple .. are MtR facts of 06m -/
end
end L2

namespace L2
open PySem PySem.Spec PyProof.Rows

def MtM (X : Cx) (id : String) (r : V → List V → Hp → VK → Prop) : Prop :=
  ∀ (pins : List (Addr × Obj)) (s : Shared) (σ : St) (H : Hp) (x : V) (xs : List V) (v : Value) (us : List Value) (Q : VK), Inv X pins σ H s → RelV x v → Vals xs us → r x xs H Q →
    wpAny (model X.prog X.w) X.A (call (.builtin id) (v :: us)) (EP X pins σ Q) X.xe s

/-! ### lists of values -/
theorem Vals.one : ∀ {x : V} {us : List Value}, Vals [x] us → ∃ u, us = [u] ∧ RelV x u
  | _, _, .cons r .nil => ⟨_, rfl, r⟩
theorem Vals.two : ∀ {x y : V} {us : List Value}, Vals [x, y] us → ∃ u v, us = [u, v] ∧ RelV x u ∧ RelV y v
  | _, _, _, .cons r (.cons q .nil) => ⟨_, _, rfl, r, q⟩
theorem Vals.zero : ∀ {us : List Value}, Vals [] us → us = []
  | _, .nil => rfl
theorem Vals.dropLast {xs : List V} {us : List Value} (h : Vals xs us) : Vals xs.dropLast us.dropLast := by
  induction h with
  | nil => exact .nil
  | cons r t ih =>
    cases t with
    | nil => exact .nil
    | cons q t' => exact .cons r ih
theorem Vals.eraseIdx : ∀ {xs : List V} {us : List Value} (i : Nat), Vals xs us → Vals (xs.eraseIdx i) (us.eraseIdx i)
  | _, _, _, .nil => .nil
  | _, _, 0, .cons _ t => t
  | _, _, i + 1, .cons r t => .cons r (Vals.eraseIdx i t)
theorem Vals.reverse {xs : List V} {us : List Value} (h : Vals xs us) : Vals xs.reverse us.reverse := by
  induction h with
  | nil => exact .nil
  | cons r t ih => rw [List.reverse_cons, List.reverse_cons]; exact Vals.append ih (.cons r .nil)
theorem Vals.rep {xs : List V} {us : List Value} (h : Vals xs us) : ∀ k : Nat, Vals (List.replicate k xs).flatten (List.replicate k us).flatten
  | 0 => .nil
  | k + 1 => by
    rw [List.replicate_succ, List.replicate_succ, List.flatten_cons, List.flatten_cons]
    exact Vals.append h (Vals.rep h k)
theorem erase_last {α : Type} (l : List α) : l.eraseIdx (l.length - 1) = l.dropLast := by
  induction l with
  | nil => rfl
  | cons a r ih =>
    cases r with
    | nil => rfl
    | cons b r =>
      have e : (a :: b :: r).length - 1 = ((b :: r).length - 1) + 1 := by
        have h1 : (a :: b :: r).length = r.length + 2 := rfl
        have h2 : (b :: r).length = r.length + 1 := rfl
        omega
      rw [e, List.eraseIdx_cons_succ, ih]
      all_goals rfl
theorem len_erase {α : Type} : ∀ (l : List α) (i : Nat), (l.eraseIdx i).length ≤ l.length
  | [], _ => Nat.le_refl _
  | _ :: _, 0 => Nat.le_succ _
  | _ :: r, i + 1 => Nat.succ_le_succ (len_erase r i)
theorem foldl_rep (its : List Value) : ∀ (k : Nat) (acc : List Value),
    List.foldl (fun x1 x2 => x1 ++ x2) acc.toArray (List.replicate k its.toArray) = (acc ++ (List.replicate k its).flatten).toArray
  | 0, acc => by simp
  | k + 1, acc => by
    have e : acc.toArray ++ its.toArray = (acc ++ its).toArray := by simp
    have e2 : (acc ++ its) ++ (List.replicate k its).flatten = acc ++ (List.replicate (k + 1) its).flatten := by
      rw [List.replicate_succ, List.flatten_cons, List.append_assoc]
    rw [← e2, ← foldl_rep its k (acc ++ its), ← e, List.replicate_succ, List.foldl_cons]

section
variable {X : Cx} {pins : List (Addr × Obj)} {σ : St} {H : Hp} {s : Shared} {l b : Addr} {xs ys zs : List V}

/-! ### the two steps: a tracked list is rewritten, a new list is laid -/
theorem Inv.lset {its its' : List Value} {n : Nat} {f : Array Value → Array Value} {t' : Nat} (I : Inv X pins σ H s) (hH : H l = some (.lst xs))
    (e : s.heap.get? l = some { cls := .type "list", data := .seq its.toArray n }) (hf : f its.toArray = its'.toArray) (hv : Vals ys its') (hz : ys.length ≤ sizeLine) :
    Inv X pins σ (upd H l (.lst ys)) { s with heap := s.heap.update l (Obj.mapSeq f), toks := t' } := by
  have q := PySem.IsL.update e f
  rw [hf] at q
  refine I.write (x := l) (e := l) (by rw [hH]; exact trivial) (.inl rfl) (fun b' u hb hu => (Heap.get?_update_other s.heap (Obj.mapSeq f) (Ne.symm hb)).trans hu) ⟨_, q⟩ ?_
  exact ⟨hz, its', _, hv, q⟩
theorem Inv.lnew {its : List Value} {t' : Nat} (I : Inv X pins σ H s) (hv : Vals ys its) (hz : ys.length ≤ sizeLine) :
    Inv X pins σ (upd H s.heap.objs.size (.lst ys)) { s with heap := s.heap.push { cls := .type "list", data := .seq its.toArray }, toks := t' } :=
  I.laid (fun _ _ q => Heap.get?_push_of_some _ q) (Nat.le_refl _) ⟨hz, its, 0, hv, Heap.get?_push_size _ rfl⟩
theorem Inv.fresh (I : Inv X pins σ H s) : H s.heap.objs.size = none := I.hok.fresh (Nat.le_refl _)
theorem Inv.lstM (I : Inv X pins σ H s) (hH : H l = some (.lst xs)) : xs.length ≤ sizeLine ∧ ∃ (its : List Value) (n : Nat), Vals xs its ∧ xs.length = its.length ∧ s.heap.get? l = some { cls := .type "list", data := .seq its.toArray n } := by
  obtain ⟨z, its, n, r, e⟩ := I.hok l _ hH
  exact ⟨z, its, n, r, r.length, e⟩

theorem notLongL {n : Nat} (h : n ≤ sizeLine) : Builtin.List.listTooLong n = false := by
  unfold Builtin.List.listTooLong
  exact decide_eq_false (by omega)
end

section
variable {X : Cx}

/-! ### methods -/
def rAppend : V → List V → Hp → VK → Prop := fun x vs H Q => ∃ l xs y, x = .ref l ∧ vs = [y] ∧ H l = some (.lst xs) ∧ xs.length < sizeLine ∧ Q .non (upd H l (.lst (xs ++ [y])))
theorem mt_append : MtM X "list.append" rAppend := by
  intro pins s σ H x vs v us Q I rx rv h
  obtain ⟨l, xs, y, rfl, rfl, hH, hz, q⟩ := h
  cases rx
  obtain ⟨u, rfl, ru⟩ := rv.one
  obtain ⟨z, its, n, r, hl, e⟩ := I.lstM hH
  refine call_meets F.slot_list_append ⟨_, e, rfl⟩ F.entry_list_append (F.args_list_append_2 _ _) (PySem.list_append l its.toArray n u (by rw [List.size_toArray]; omega)) ⟨e, ?_⟩
  refine ⟨.non, _, I.lset (its' := its ++ [u]) hH e (by simp) (r.append (.cons ru .nil)) ?_, rfl, q⟩
  rw [List.length_append, List.length_singleton]
  omega

def rExtend : V → List V → Hp → VK → Prop := fun x vs H Q => ∃ l b xs zs, x = .ref l ∧ vs = [.ref b] ∧ H l = some (.lst xs) ∧ H b = some (.lst zs) ∧ xs.length + zs.length ≤ sizeLine ∧ Q .non (upd H l (.lst (xs ++ zs)))
theorem mt_extend : MtM X "list.extend" rExtend := by
  intro pins s σ H x vs v us Q I rx rv h
  obtain ⟨l, b, xs, zs, rfl, rfl, hH, hB, hz, q⟩ := h
  cases rx
  obtain ⟨u, rfl, ru⟩ := rv.one
  cases ru
  obtain ⟨z, its, n, r, hl, e⟩ := I.lstM hH
  obtain ⟨z2, its2, n2, r2, hl2, e2⟩ := I.lstM hB
  have hsz : its.toArray.size + its2.toArray.size ≤ sizeLine := by rw [List.size_toArray, List.size_toArray]; omega
  have hlong : ¬ (!its.toArray.isEmpty && Builtin.List.listTooLong (its.toArray.size + its2.toArray.size)) = true := by
    rw [notLongL hsz, Bool.and_false]
    exact Bool.false_ne_true
  refine call_meets F.slot_list_extend ⟨_, e, rfl⟩ F.entry_list_extend (F.args_list_extend_2 _ _)
    (AutoSeq1.list_extend_list_list_0 l its.toArray n b its2.toArray n2 hlong (by rw [List.size_toArray]; omega) (by omega)) ⟨e, e2, ?_⟩
  refine ⟨.non, _, I.lset (its' := its ++ its2) hH e (by simp) (r.append r2) ?_, rfl, q⟩
  rw [List.length_append]
  omega

def rPop : V → List V → Hp → VK → Prop := fun x vs H Q => ∃ l xs y, x = .ref l ∧ vs = [] ∧ H l = some (.lst xs) ∧ xs[xs.length - 1]? = some y ∧ Q y (upd H l (.lst xs.dropLast))
theorem mt_pop : MtM X "list.pop" rPop := by
  intro pins s σ H x vs v us Q I rx rv h
  obtain ⟨l, xs, y, rfl, rfl, hH, hy, q⟩ := h
  cases rx
  have hus := rv.zero
  subst hus
  obtain ⟨z, its, n, r, hl, e⟩ := I.lstM hH
  obtain ⟨u, hu, ru⟩ := r.get hy
  have hy' : its.toArray[its.toArray.size - 1]? = some u := by
    show its.toArray[its.length - 1]? = some u
    rw [← Array.getElem?_toList, ← hl]
    exact hu
  refine call_meets F.slot_list_pop ⟨_, e, rfl⟩ F.entry_list_pop (F.args_list_pop_1 _) (MeetsSeq.list_pop_last l its.toArray n u hy' (by rw [List.size_toArray]; omega)) ⟨e, ?_⟩
  refine ⟨y, _, I.lset (its' := its.dropLast) hH e ?_ r.dropLast ?_, ru, q⟩
  · show its.toArray.eraseIdxIfInBounds (its.toArray.size - 1) = its.dropLast.toArray
    rw [List.size_toArray, List.eraseIdxIfInBounds_toArray, erase_last]
  · rw [List.length_dropLast]
    omega

def rPopAt : V → List V → Hp → VK → Prop := fun x vs H Q => ∃ l xs i k y, x = .ref l ∧ vs = [.int i] ∧ H l = some (.lst xs) ∧ -(2 ^ 63) ≤ i ∧ i < 2 ^ 63 ∧ seqIndex? i xs.length = some k ∧ xs[k]? = some y ∧ Q y (upd H l (.lst (xs.eraseIdx k)))
theorem mt_popAt : MtM X "list.pop" rPopAt := by
  intro pins s σ H x vs v us Q I rx rv h
  obtain ⟨l, xs, i, k, y, rfl, rfl, hH, h1, h2, hk, hy, q⟩ := h
  cases rx
  obtain ⟨u, rfl, ru⟩ := rv.one
  obtain ⟨t, rfl⟩ := ru
  obtain ⟨z, its, n, r, hl, e⟩ := I.lstM hH
  obtain ⟨w, hw, rw'⟩ := r.get hy
  refine call_meets F.slot_list_pop ⟨_, e, rfl⟩ F.entry_list_pop (F.args_list_pop_2 _ _)
    (MeetsSeq.list_pop_at l its.toArray n i t k w (fitsIndex_both h1 h2) (by rw [List.size_toArray, ← hl]; exact hk) (by rw [← Array.getElem?_toList]; exact hw) (by rw [List.size_toArray]; omega)) ⟨e, ?_⟩
  refine ⟨y, _, I.lset (its' := its.eraseIdx k) hH e ?_ (r.eraseIdx k) ?_, rw', q⟩
  · show its.toArray.eraseIdxIfInBounds k = (its.eraseIdx k).toArray
    rw [List.eraseIdxIfInBounds_toArray]
  · have := len_erase xs k
    omega

def rReverse : V → List V → Hp → VK → Prop := fun x vs H Q => ∃ l xs, x = .ref l ∧ vs = [] ∧ H l = some (.lst xs) ∧ Q .non (upd H l (.lst xs.reverse))
theorem mt_reverse : MtM X "list.reverse" rReverse := by
  intro pins s σ H x vs v us Q I rx rv h
  obtain ⟨l, xs, rfl, rfl, hH, q⟩ := h
  cases rx
  have hus := rv.zero
  subst hus
  obtain ⟨z, its, n, r, hl, e⟩ := I.lstM hH
  refine call_meets F.slot_list_reverse ⟨_, e, rfl⟩ F.entry_list_reverse (F.args_list_reverse_1 _) (AutoSeq1.list_reverse_list_0 l its.toArray n (by rw [List.size_toArray]; omega)) ⟨e, ?_⟩
  refine ⟨.non, _, I.lset (its' := its.reverse) hH e (by simp) r.reverse ?_, rfl, q⟩
  rw [List.length_reverse]
  omega

def rClear : V → List V → Hp → VK → Prop := fun x vs H Q => ∃ l xs, x = .ref l ∧ vs = [] ∧ H l = some (.lst xs) ∧ Q .non (upd H l (.lst []))
theorem mt_clear : MtM X "list.clear" rClear := by
  intro pins s σ H x vs v us Q I rx rv h
  obtain ⟨l, xs, rfl, rfl, hH, q⟩ := h
  cases rx
  have hus := rv.zero
  subst hus
  obtain ⟨z, its, n, r, hl, e⟩ := I.lstM hH
  refine call_meets F.slot_list_clear ⟨_, e, rfl⟩ F.entry_list_clear (F.args_list_clear_1 _) (AutoSeq1.list_clear_list_0 l its.toArray n (by rw [List.size_toArray]; omega)) ⟨e, ?_⟩
  exact ⟨.non, _, I.lset (its' := []) (ys := []) hH e rfl .nil (Nat.zero_le _), rfl, q⟩

/-! ### list + list, list += list, list * int -/
def rCat : R2 := fun x y H Q => ∃ l b xs zs, x = .ref l ∧ y = .ref b ∧ H l = some (.lst xs) ∧ H b = some (.lst zs) ∧ xs.length + zs.length ≤ sizeLine ∧ ∀ p, H p = none → Q (.ref p) (upd H p (.lst (xs ++ zs)))
theorem op_cat : OpR X (binaryOp .Add) rCat := by
  intro pins s σ H x y v u Q I rx ry h
  obtain ⟨l, b, xs, zs, rfl, rfl, hH, hB, hz, q⟩ := h
  cases rx
  cases ry
  obtain ⟨z, its, n, r, hl, e⟩ := I.lstM hH
  obtain ⟨z2, its2, n2, r2, hl2, e2⟩ := I.lstM hB
  refine PySem.P.add_list e e2 ?_ (by rw [List.size_toArray, List.size_toArray]; omega)
  have ea : its.toArray ++ its2.toArray = (its ++ its2).toArray := by simp
  rw [ea]
  exact ⟨.ref _, _, I.lnew (t' := s.toks) (r.append r2) (by rw [List.length_append]; omega), rfl, q _ I.fresh⟩
/-- a list times an int (a negative one is nothing) -/
def rRep : R2 := fun x y H Q => ∃ l k xs, x = .ref l ∧ y = .int k ∧ H l = some (.lst xs) ∧ -(2 ^ 63) ≤ k ∧ k < 2 ^ 63 ∧ xs.length * k.toNat ≤ sizeLine ∧
  ∀ p, H p = none → Q (.ref p) (upd H p (.lst (List.replicate k.toNat xs).flatten))
theorem len_rep {α : Type} (xs : List α) (k : Nat) : (List.replicate k xs).flatten.length = k * xs.length := by
  induction k with
  | zero => simp
  | succ k ih => rw [List.replicate_succ, List.flatten_cons, List.length_append, ih, Nat.succ_mul, Nat.add_comm]
theorem op_rep : OpR X (binaryOp .Mult) rRep := by
  intro pins s σ H x y v u Q I rx ry h
  obtain ⟨l, k, xs, rfl, rfl, hH, h1, h2, hz, q⟩ := h
  cases rx
  obtain ⟨t, rfl⟩ := ry
  obtain ⟨z, its, n, r, hl, e⟩ := I.lstM hH
  have hlen : its.toArray.size * k.toNat ≤ sizeLine := by rw [List.size_toArray, ← hl]; exact hz
  have hcap : ¬ its.toArray.size * k.toNat > (2 ^ 63 - 1) / 8 := by
    have : (sizeLine : Nat) ≤ (2 ^ 63 - 1) / 8 := by decide
    omega
  have hfit : ¬ (!Builtin.List.listFitsIndex k) = true := by
    rw [fitsIndex_both h1 h2]
    exact Bool.false_ne_true
  have hlong : ¬ Builtin.List.listTooLong (its.toArray.size * k.toNat) = true := by
    rw [notLongL hlen]
    exact Bool.false_ne_true
  have hnew : List.foldl (fun x1 x2 => x1 ++ x2) #[] (List.replicate (if its.toArray.isEmpty = true then 0 else k.toNat) its.toArray) = (List.replicate k.toNat its).flatten.toArray := by
    have f0 : ∀ m : Nat, List.foldl (fun x1 x2 => x1 ++ x2) #[] (List.replicate m its.toArray) = (List.replicate m its).flatten.toArray := fun m => by
      have := foldl_rep its m []
      rw [List.nil_append] at this
      exact this
    rw [f0]
    cases its with
    | nil => simp
    | cons a r' => rw [if_neg (by simp)]
  refine wpAny_binaryOp_repeat_ref (T := "list") (U := "int") (by decide) ⟨_, e, rfl⟩ (fun s' => typeIs_int s' k t) noFill_list_mul F.fills_int_mul F.slot_int_rmul repeat_list F.slot_int_index.lookup
    (call_meets F.slot_int_rmul (typeIs_int s k t) F.entry_int_rmul (F.args_int_rmul_2 _ _) (int___rmul___int_list k t l its.toArray n)
      ⟨e, rfl, ⟨_, e, rfl⟩, call_meets F.slot_list_mul ⟨_, e, rfl⟩ F.entry_list_mul (F.args_list_mul_2 _ _) (AutoListH.list___mul___list_int_3 l its.toArray n k t hfit hcap hlong) ⟨e, ?_⟩⟩)
  rw [hnew]
  exact ⟨.ref _, _, I.lnew (t' := s.toks) (r.rep k.toNat) (by rw [len_rep, Nat.mul_comm]; exact hz), rfl, q _ I.fresh⟩

/-! ### del xs[i] -/
theorem del_list {pins : List (Addr × Obj)} {s : Shared} {σ : St} {H : Hp} {l : Addr} {xs : List V} {i : Int} {t : Tok} {k : Nat} {Q : Unit → Shared → Prop} (I : Inv X pins σ H s) (hH : H l = some (.lst xs))
    (h1 : -(2 ^ 63) ≤ i) (h2 : i < 2 ^ 63) (hk : seqIndex? i xs.length = some k) (h : ∀ s', Inv X pins σ (upd H l (.lst (xs.eraseIdx k))) s' → Q () s') :
    wpAny (model X.prog X.w) X.A (delItem (.ref l) (.int i t)) Q X.xe s := by
  obtain ⟨z, its, n, r, hl, e⟩ := I.lstM hH
  refine PySem.P.delItem_list (k := k) e (fitsIndex_both h1 h2) (by rw [List.size_toArray, ← hl]; exact hk) (h _ ?_) (by rw [List.size_toArray]; omega)
  refine I.lset (its' := its.eraseIdx k) (t' := s.toks) hH e ?_ (r.eraseIdx k) ?_
  · show its.toArray.eraseIdxIfInBounds k = (its.eraseIdx k).toArray
    rw [List.eraseIdxIfInBounds_toArray]
  · have := len_erase xs k
    omega
end

/-! ### xs[a:b] = ys -/
section
variable {prog : Program} {w : World} {A : Around} {E : Value → Shared → Prop} {s : Shared}
theorem splice_eq (its its2 : List Value) (a c : Nat) : its.toArray.extract 0 a ++ its2.toArray ++ its.toArray.extract c its.toArray.size = (its.take a ++ its2 ++ its.drop c).toArray := by
  apply Array.toList_inj.mp
  first
    | (simp
       exact List.take_of_length_le (by simp))
    | simp [List.take_of_length_le]
    | simp
theorem bounds_run {a c n : Nat} (hac : a ≤ c) (hc : c ≤ n) : sliceBounds (some (a : Int)) (some (c : Int)) none n = ((a : Int), (c : Int), 1) := by
  simp only [sliceBounds, Option.getD_none]
  have h1 : ¬ ((a : Int) < 0) := by omega
  have h2 : ¬ ((c : Int) < 0) := by omega
  simp only [h1, h2, if_false, show (1 : Int) > 0 by decide, if_true]
  congr 1
  · omega
  · congr 1; omega
set_option maxRecDepth 100000 in
/-- list.__setitem__ with a slice of step one and another list -/
theorem setItem_slice {l b sl : Addr} {items new : Array Value} {n n2 : Nat} {vl vu : Value} {a c : Nat} {Q : Unit → Shared → Prop}
    (e : s.heap.get? l = some { cls := .type "list", data := .seq items n }) (e2 : s.heap.get? b = some { cls := .type "list", data := .seq new n2 }) (hne : l ≠ b)
    (hs : s.heap.IsSliceOf sl vl vu .none) (pl : IsPart vl (some (a : Int))) (pu : IsPart vu (some (c : Int))) (hac : a ≤ c) (hc : c ≤ items.size)
    (hsz : items.size + new.size ≤ sizeLine) (h : Q () { s with heap := s.heap.update l (Obj.mapSeq fun xs => xs.extract 0 a ++ new ++ xs.extract c xs.size) }) :
    wpAny (model prog w) A (setItem (.ref l) (.ref sl) (.ref b)) Q E s := by
  have hl : s.heap.IsList l items := PySem.IsL.isList e
  have hb : s.heap.IsList b new := PySem.IsL.isList e2
  obtain ⟨os, hos, hcs, hds⟩ := id hs
  have hTs : s.TypeIs (.ref sl) "slice" := ⟨os, hos, hcs⟩
  have hstep : ¬ ((rawPart none == rawInt 0) = true) := Bool.false_ne_true
  have hsame : Builtin.List.listSameRef (.ref l) (.ref b) = false := by
    unfold Builtin.List.listSameRef
    exact beq_eq_false_iff_ne.mpr hne
  have hmax : (max (a : Int) (c : Int)).toNat = c := by omega
  have hz' : ((fun xs : Array Value => xs.extract 0 a ++ new ++ xs.extract c xs.size) items).size ≤ sizeLine + 1 := by
    simp only [Array.size_append, Array.size_extract]
    omega
  unfold setItem
  try with_reducible refine wpAny_holding ?_
  first | refine wpAny_bind (wpAny_pure ?_) | skip
  refine wpAny_bind (wpAny_sequenceKey hl.typeIs (by decide) ?_)
  refine wpAny_bind (wpAny_callSpecial?_slot (name := Str.ofString "__setitem__") hl.typeIs slot_list_setitem
    (wpAny_call_entry slot_list_setitem hl.typeIs entry_list_setitem ?_ (args_list_setitem _ _ _)))
  show wpAny _ _ (Builtin.List.listSubscript? (.ref sl) >>= _) _ _ s
  refine wpAny_bind ?_
  unfold Builtin.List.listSubscript?
  refine wpAny_bind (wpAny_specialOf hTs slice_no_index ?_)
  simp only [Option.isNone_none, if_true]
  refine wpAny_pure ?_
  show wpAny _ _ (typeOf (.ref sl) >>= _) _ _ s
  refine wpAny_bind (wpAny_typeOf hTs ?_)
  first
    | rw [if_neg (by decide)]
    | refine PySem.W.KFB.if_not (by decide) ?_
  rw [listSliceParts_eq]
  refine wpAny_bind (wpAny_bind (wpAny_field hos hds (x := .none) rfl (wpAny_bind (wpAny_listPart .none ?_))))
  rw [if_neg hstep]
  refine wpAny_bind (wpAny_field hos hds (x := vl) rfl (wpAny_bind (wpAny_listPart pl ?_)))
  refine wpAny_bind (wpAny_field hos hds (x := vu) rfl (wpAny_bind (wpAny_listPart pu (wpAny_pure ?_))))
  first
    | simp only [hsame, Bool.false_eq_true, if_false]
    | refine PySem.W.KFB.if_not hsame ?_
    | (dsimp only
       rw [if_neg (by rw [hsame]; exact Bool.false_ne_true)])
  refine wpAny_bind (m := Builtin.List.listAllItems (.ref b) "must assign iterable to extended slice") ?_
  unfold Builtin.List.listAllItems
  refine wpAny_bind (wpAny_typeOf hb.typeIs ?_)
  first
    | refine PySem.W.KFB.if_so (by decide) ?_
    | rw [if_pos (by decide)]
    | simp only [beq_self_eq_true, Bool.true_or, if_true]
  unfold Builtin.List.listItems
  refine wpAny_bind (wpAny_seqItems e2 rfl (wpAny_pure ?_))
  refine wpAny_bind (wpAny_bind (wpAny_seqItems e rfl (wpAny_pure ?_)))
  refine wpAny_bind (wpAny_of_eq ((sliceIndices_raw (some (a : Int)) (some (c : Int)) none items.size (by simp)).trans (congrArg (pure : Int × Int × Int → Sem (Int × Int × Int)) (bounds_run hac hc))) ?_)
  show wpAny _ _ (if ((1 : Int) == 1) = true then _ else _) _ _ s
  rw [if_pos (by decide)]
  refine wpAny_bind (wpAny_rule ?_)
  first
    | simp only [notLongL hsz, Bool.false_eq_true, if_false]
    | refine PySem.W.KFB.if_not (notLongL hsz) ?_
  first | refine wpAny_bind (wpAny_pure ?_) | skip
  show wpAny _ _ (updateSeq l (fun xs => xs.extract 0 ((a : Int)).toNat ++ new ++ xs.extract (max (a : Int) (c : Int)).toNat xs.size) >>= _) _ _ s
  rw [hmax, Int.toNat_natCast]
  refine wpAny_bind (wpAny_updateSeq (hz := Nat.le_trans (Nat.le_add_right _ _) hsz) (_hz' := hz') e rfl ?_)
  refine wpAny_bind (wpAny_letGo ?_)
  first
    | exact wpAny_bind (wpAny_pure (wpAny_pure ⟨.none, rfl, wpAny_pure h⟩))
    | exact wpAny_pure ⟨.none, rfl, wpAny_pure h⟩
end

section
variable {X : Cx}
/-- xs[a:c] = ys of another list, at the value level: sl is the slice object that was just made -/
theorem set_slice {pins : List (Addr × Obj)} {s : Shared} {σ : St} {H : Hp} {l b sl : Addr} {xs ys : List V} {a c : Int} {vl vu : Value} {Q : Unit → Shared → Prop} (I : Inv X pins σ H s)
    (hH : H l = some (.lst xs)) (hB : H b = some (.lst ys)) (hne : l ≠ b) (hs : s.heap.IsSliceOf sl vl vu .none) (ra : RelV (.int a) vl) (rc : RelV (.int c) vu) (h0 : 0 ≤ a) (hac : a ≤ c) (hc : c ≤ xs.length)
    (hz : xs.length + ys.length ≤ sizeLine) (h : ∀ s', Inv X pins σ (upd H l (.lst (xs.take a.toNat ++ ys ++ xs.drop c.toNat))) s' → Q () s') :
    wpAny (model X.prog X.w) X.A (setItem (.ref l) (.ref sl) (.ref b)) Q X.xe s := by
  obtain ⟨ta, rfl⟩ := ra
  obtain ⟨tc, rfl⟩ := rc
  obtain ⟨z, its, n, r, hl, e⟩ := I.lstM hH
  obtain ⟨z2, its2, n2, r2, hl2, e2⟩ := I.lstM hB
  obtain ⟨a', rfl⟩ := Int.eq_ofNat_of_zero_le h0
  obtain ⟨c', rfl⟩ := Int.eq_ofNat_of_zero_le (Int.le_trans h0 hac)
  simp only [Int.toNat_natCast] at h
  refine setItem_slice (a := a') (c := c') e e2 hne hs (.int _ _) (.int _ _) (by omega) (by rw [List.size_toArray]; omega) (by rw [List.size_toArray, List.size_toArray]; omega) (h _ ?_)
  refine I.lset (its' := its.take a' ++ its2 ++ its.drop c') (t' := s.toks) hH e ?_ (Vals.append (Vals.append (r.take _) r2) (r.drop _)) ?_
  · exact splice_eq its its2 a' c'
  · rw [List.length_append, List.length_append, List.length_take, List.length_drop]
    omega
end
end L2

namespace Att
open PySem PySem.W PySem.Calls PyProof.Rows

/-! ### the script -/
theorem ints_of_wellAll {P : Params} {h : Heap} : ∀ (ns : List Int) (vs : List Value), WellAll P h vs (ns.map WData.int) → IntsAre vs ns := by
  intro ns
  induction ns with
  | nil =>
    intro vs w
    rw [List.map_nil] at w
    cases w
    exact .nil
  | cons n ns ih =>
    intro vs w
    rw [List.map_cons] at w
    cases w with
    | cons a b =>
      cases a
      exact .cons _ _ (ih _ b)

theorem script_of {l : OpenLaw} {n : Nat} (hn : l.most = some n) {P : Params} {h : Heap} {args : List WData} {vals : List Value}
    (hpre : l.row.toRowW.claim.pre args = true) (hwl : WellAll P h vals args) :
    ∃ a vs ns, vals = [Value.ref a] ∧ args = [WData.list (ns.map WData.int)] ∧ h.get? a = some { cls := .type "list", data := .seq vs.toArray } ∧ IntsAre vs ns ∧ ns.length ≤ n := by
  have hsh : WShape.hasAll [] args [.list .int] = true := (pre_splitW hpre).1
  have hc : l.pre.holds [] { args := args } = true := (pre_splitW hpre).2
  obtain ⟨d, r, rfl, h1, h2⟩ := hasAllW_cons hsh
  obtain rfl := hasAllW_nil h2
  obtain ⟨xs, rfl, h3⟩ := hasW_list h1
  obtain ⟨ns, rfl⟩ := items_int h3
  have hlen : ns.length ≤ n := by
    unfold OpenLaw.pre at hc
    have h4 : (WTm.not (.lt (.lit (.int (n : Int))) (.len (.arg 0)))).holds [] { args := [.list (ns.map .int)] } = true := by
      have h4 := (holds_andW hc).1
      rw [hn] at h4
      exact h4
    have h5 := condW_of h4 (w_not (w_lt w_lit (w_len_list (w_arg rfl))))
    rw [List.length_map] at h5
    refine Nat.le_of_not_lt fun q => ?_
    have q' : (n : Int) < ((ns.length : Nat) : Int) := by omega
    first
      | (rw [decide_eq_true q'] at h5; exact absurd h5 (by decide))
      | (simp at h5; omega)
  cases hwl with
  | cons w1 w2 =>
    cases w2
    cases w1 with
    | list ho hall => exact ⟨_, _, ns, rfl, rfl, ho, ints_of_wellAll ns _ hall, hlen⟩

theorem post_true (l : OpenLaw) (args : List WData) : l.row.toRowW.claim.post args (.bool true) args = true :=
  postW_of (r := l.row.toRowW) (X := (true == true))
    (show WShape.has [] (.bool true) .bool = true by first | rfl | decide | simp [WShape.has, WShape.arms, WShape.armsAll])
    (show (WTm.eq .res (.lit (.bool true))).value [] { args := args, res := some (.bool true), after := args } = some (.bool (true == true)) from w_eq_bool (w_res rfl) w_lit) rfl

/-! ### the attachment: holds_open's last premise (the goal 'hc' behind k_head) from a wpAny of the law's body -/
theorem attach {l : OpenLaw} {n : Nat} {q : Program} {loose : List Str} {XP : (Str → Option Value) → Heap → Prop} {YP : World → Heap → Prop} {d : DefRec} {x : Str}
    (hn : l.most = some n) (hdf : d.params.defaults = [])
    (hbind : ∀ pm cd doc v : Value, bindArgs (docDef d.name d.params d.body d.scope pm cd doc) ⟨[v], []⟩ = pure [(x, v)])
    (hx : d.scope.names.lookup x = some .local ∨ d.scope.names.lookup x = some .cell)
    (hk : d.scope.kind = .function) (hco : d.scope.isCoroutine = false) (hgen : d.scope.isGenerator = false)
    (body : ∀ (w : World) (s₀ s₁ s : Shared) (mg mb : Str → Option Value) (fa : Addr) (o : Obj) (pm cd doc : Value) (a : Addr) (vs : List Value) (ns : List Int),
      Ground q loose [] XP w s₀ mg mb s₁.heap → YP w s₁.heap →
      s₁.heap.get? fa = some o → o.data = .func (docDef d.name d.params d.body d.scope pm cd doc) → s₁.heap.CodeRec cd d.name → mg d.name = some (.ref fa) →
      s₁.heap.get? a = some { cls := .type "list", data := .seq vs.toArray } → IntsAre vs ns → ns.length ≤ n →
      s.gens = #[] → s.os = s₁.os →
      Fr s₁.heap s₁.heap.objs.size s.heap (bindL (envOfC d.name d.scope s₁.heap.objs.size fa cd).kindOf [(x, .ref a)] fun _ => none) →
      Cl s₁.heap.objs.size (cellsFrom (s₁.heap.objs.size + 1) d.scope.names []) s.heap (bindC (envOfC d.name d.scope s₁.heap.objs.size fa cd).kindOf [(x, .ref a)] fun _ => none) →
      wpAny (model l.prog w) (callerA.deeper (envOfC d.name d.scope s₁.heap.objs.size fa cd)) (execs d.body (envOfC d.name d.scope s₁.heap.objs.size fa cd))
        (fun f s' => f = .ret (.bool true) ∧ OldK s₁.heap s'.heap ∧ s'.os = s₁.os ∧ AllBare s'.gens) (fun _ _ => False) s) :
    WalkO q loose XP YP l.row.toRowW d [] (fun f vs => PySem.call f vs) := by
  intro w s₀ s₁ mg mb G Y fa o pm cd doc dV kV ho hd hcd hD hmg hg args vals as hpre hlay hrd hwl hlo
  obtain rfl : dV = .none := Dflts.none hD hdf
  obtain rfl : kV = .none := Dflts.noKw hD
  obtain ⟨a, vs, ns, rfl, rfl, hobj, hints, hlen⟩ := script_of hn hpre hwl
  refine enter_call ?_
  refine call_cells_ret (o := o) (by rw [depth_caller]; decide) ho (fd_plain hd) G.T.nolimit hcd (hbind pm cd doc (.ref a)) (fun y hy => ?_) (fun h₁ tk F X => ?_) hco hgen hk
  · obtain rfl : y = (x, Value.ref a) := List.mem_singleton.mp hy
    rcases hx with e | e
    · exact .inl e
    · exact .inr ⟨e, cellsFrom_some _ _ _ (.inl e)⟩
  · refine wpAny_mono (body w s₀ s₁ { s₁ with heap := h₁, toks := tk } mg mb fa o pm cd doc a vs ns G Y ho (fd_plain hd) hcd hmg hobj hints hlen hg rfl F X) (fun f s' hq => ?_) (fun _ _ hq => hq)
    obtain ⟨rfl, h2, h3, h4⟩ := hq
    exact ⟨.inl ⟨.bool true, .bool true, [], rfl, fun _ => rfl, .bool true, post_true l _, fun _ => ⟨List.Pairwise.nil, fun _ hm => (nomatch hm)⟩⟩, h2, h3, h4⟩

/-- the same from a codeAny of the CALL (for a layer whose function contracts speak of calls) -/
theorem attach_call {l : OpenLaw} {n : Nat} {q : Program} {loose : List Str} {XP : (Str → Option Value) → Heap → Prop} {YP : World → Heap → Prop} {d : DefRec}
    (hn : l.most = some n) (hdf : d.params.defaults = [])
    (call : ∀ (w : World) (s₀ s₁ : Shared) (mg mb : Str → Option Value) (fa : Addr) (o : Obj) (pm cd doc : Value) (a : Addr) (vs : List Value) (ns : List Int),
      Ground q loose [] XP w s₀ mg mb s₁.heap → YP w s₁.heap →
      s₁.heap.get? fa = some o → o.data = .func (docDef d.name d.params d.body d.scope pm cd doc) → s₁.heap.CodeRec cd d.name → mg d.name = some (.ref fa) →
      s₁.heap.get? a = some { cls := .type "list", data := .seq vs.toArray } → IntsAre vs ns → ns.length ≤ n → s₁.gens = #[] →
      codeAny (model l.prog w) callerA (.call (.ref fa) ⟨[.ref a], []⟩) (fun r s' => r = .ok (.ret (.bool true)) ∧ OldK s₁.heap s'.heap ∧ s'.os = s₁.os ∧ AllBare s'.gens) s₁) :
    WalkO q loose XP YP l.row.toRowW d [] (fun f vs => PySem.call f vs) := by
  intro w s₀ s₁ mg mb G Y fa o pm cd doc dV kV ho hd hcd hD hmg hg args vals as hpre hlay hrd hwl hlo
  obtain rfl : dV = .none := Dflts.none hD hdf
  obtain rfl : kV = .none := Dflts.noKw hD
  obtain ⟨a, vs, ns, rfl, rfl, hobj, hints, hlen⟩ := script_of hn hpre hwl
  refine enter_call (codeAny_mono (call w s₀ s₁ mg mb fa o pm cd doc a vs ns G Y ho (fd_plain hd) hcd hmg hobj hints hlen hg) fun r s' hq => ?_)
  obtain ⟨rfl, h2, h3, h4⟩ := hq
  exact ⟨.inl ⟨.bool true, .bool true, [], rfl, fun _ => rfl, .bool true, post_true l _, fun _ => ⟨List.Pairwise.nil, fun _ hm => (nomatch hm)⟩⟩, h2, h3, h4⟩

/-- the same where the top left finished generators (o_head chose holds_openN): nothing may have changed at all and no generator may be left -/
theorem attachN {l : OpenLaw} {n : Nat} {q : Program} {loose : List Str} {XP : (Str → Option Value) → Heap → Prop} {YP : World → Heap → Prop} {d : DefRec} {x : Str}
    (hn : l.most = some n) (hdf : d.params.defaults = [])
    (hbind : ∀ pm cd doc v : Value, bindArgs (docDef d.name d.params d.body d.scope pm cd doc) ⟨[v], []⟩ = pure [(x, v)])
    (hx : d.scope.names.lookup x = some .local ∨ d.scope.names.lookup x = some .cell)
    (hk : d.scope.kind = .function) (hco : d.scope.isCoroutine = false) (hgen : d.scope.isGenerator = false)
    (body : ∀ (w : World) (s₀ s₁ s : Shared) (mg mb : Str → Option Value) (fa : Addr) (o : Obj) (pm cd doc : Value) (a : Addr) (vs : List Value) (ns : List Int),
      Ground q loose [] XP w s₀ mg mb s₁.heap → YP w s₁.heap →
      s₁.heap.get? fa = some o → o.data = .func (docDef d.name d.params d.body d.scope pm cd doc) → s₁.heap.CodeRec cd d.name → mg d.name = some (.ref fa) →
      s₁.heap.get? a = some { cls := .type "list", data := .seq vs.toArray } → IntsAre vs ns → ns.length ≤ n →
      s.gens = #[] → s.os = s₁.os →
      Fr s₁.heap s₁.heap.objs.size s.heap (bindL (envOfC d.name d.scope s₁.heap.objs.size fa cd).kindOf [(x, .ref a)] fun _ => none) →
      Cl s₁.heap.objs.size (cellsFrom (s₁.heap.objs.size + 1) d.scope.names []) s.heap (bindC (envOfC d.name d.scope s₁.heap.objs.size fa cd).kindOf [(x, .ref a)] fun _ => none) →
      wpAny (model l.prog w) (callerA.deeper (envOfC d.name d.scope s₁.heap.objs.size fa cd)) (execs d.body (envOfC d.name d.scope s₁.heap.objs.size fa cd))
        (fun f s' => f = .ret (.bool true) ∧ (∀ b o, s₁.heap.get? b = some o → s'.heap.get? b = some o) ∧ s'.os = s₁.os ∧ s'.gens = #[]) (fun _ _ => False) s) :
    WalkN q loose XP YP l.row.toRowW d [] (fun f vs => PySem.call f vs) := by
  intro w s₀ s₁ mg mb G Y fa o pm cd doc dV kV ho hd hcd hD hmg hg args vals as hpre hlay hrd hwl hlo
  obtain rfl : dV = .none := Dflts.none hD hdf
  obtain rfl : kV = .none := Dflts.noKw hD
  obtain ⟨a, vs, ns, rfl, rfl, hobj, hints, hlen⟩ := script_of hn hpre hwl
  refine enter_callW ?_
  refine call_cells_ret (o := o) (by rw [depth_caller]; decide) ho (fd_plain hd) G.T.nolimit hcd (hbind pm cd doc (.ref a)) (fun y hy => ?_) (fun h₁ tk F X => ?_) hco hgen hk
  · obtain rfl : y = (x, Value.ref a) := List.mem_singleton.mp hy
    rcases hx with e | e
    · exact .inl e
    · exact .inr ⟨e, cellsFrom_some _ _ _ (.inl e)⟩
  · refine wpAny_mono (body w s₀ s₁ { s₁ with heap := h₁, toks := tk } mg mb fa o pm cd doc a vs ns G Y ho (fd_plain hd) hcd hmg hobj hints hlen hg rfl F X) (fun f s' hq => ?_) (fun _ _ hq => hq)
    obtain ⟨rfl, h2, h3, h4⟩ := hq
    exact ⟨.inl ⟨.bool true, .bool true, [], rfl, fun _ => rfl, .bool true, post_true l _, fun _ => ⟨List.Pairwise.nil, fun _ hm => (nomatch hm)⟩⟩, h2, h3, h4⟩

/-! ### rules over ANY heap (no ledger) from facts about the written part K: the library's own take a ledger (News) for what they write -/
section
variable {prog : Program} {w : World} {A : Around} {E : Value → Shared → Prop} {s : Shared} {K : Frag}

/-- a def of the module, or a method (qual 'C.m'), entered: the frame is the next address; cells behind it -/
theorem call_fn {R : Result → Shared → Prop} {name qual : Str} {params : Arguments} {body : List Stmt} {scope : Scope} {dV kV doc pm cdv ct oc : Value} {an od : Option Addr} {osl : Array (Option Value)} {f : Addr} {args : Args} {binds : List (Str × Value)}
    (X : K.In s.heap) (hlim : s.heap.NoLimit) (ho : K.lookup f = some ⟨oc, od, .func (fnOf name qual params body scope dV kV doc pm an cdv ct), osl⟩) (hcd : codeIn K cdv qual = true) (hroom : A.depth < recursionLimit)
    (hbind : BindsTo s (fnOf name qual params body scope dV kV doc pm an cdv ct) args binds)
    (hkind : (binds.all fun y => scope.names.lookup y.1 == some .local || scope.names.lookup y.1 == some .cell) = true)
    (h : ∀ s₁, InCallC s s.heap.objs.size (bindL (envOfC qual scope s.heap.objs.size f cdv).kindOf binds fun _ => none) (cellsFrom (s.heap.objs.size + 1) scope.names [])
        (bindC (envOfC qual scope s.heap.objs.size f cdv).kindOf binds fun _ => none) s₁ →
      wpAny (model prog w) (A.deeper (envOfC qual scope s.heap.objs.size f cdv)) (execs body (envOfC qual scope s.heap.objs.size f cdv))
        (fun fl s' => R (.ok (.ret (match fl with | .ret v => v | _ => .none))) s')
        (fun e s' => wpAny (model prog w) (A.deeper (envOfC qual scope s.heap.objs.size f cdv)) (leaving (envOfC qual scope s.heap.objs.size f cdv) e) (fun _ s'' => R (.error e) s'') (fun e' s'' => R (.error e') s'') s') s₁)
    (hco : scope.isCoroutine = false) (hgen : scope.isGenerator = false) (hk : scope.kind = .function) : codeAny (model prog w) A (.call (.ref f) args) R s := by
  refine codeAny_call_function hroom (X _ _ ho) rfl hco hgen rfl (codeRec_of X hcd) (hbind _ _ _ _ ?_)
  refine wpAny_newFunctionEnv_cells hk (kindsX hkind _) fun env he s₁ x => ?_
  subst he
  exact ⟨hlim.keeps x.toInCall.keep, codeAny_func (h s₁ x)⟩

/-- C(..): dict at size, instance at size + 1, then __init__ -/
theorem make_obj {R : Result → Shared → Prop} {C fI : Addr} {rest : List Value} {kw : List (Str × Value)}
    (X : K.In s.heap) (hm : makesIn K C = true) (hi : findIn K (.ref C) "__init__" = some (some (.ref fI))) (hf : isFn K (.ref fI) = true)
    (h : codeAny (model prog w) (A.under (.builtin "type.__call__" ⟨.ref C :: rest, kw⟩)) (.call (.ref fI) ⟨.ref (s.heap.objs.size + 1) :: rest, kw⟩) (InitBack (s.heap.objs.size + 1) R)
      { s with heap := (s.heap.push emptyDict).push (instObj C s.heap.objs.size) }) : codeAny (model prog w) A (.call (.ref C) ⟨rest, kw⟩) R s := by
  obtain ⟨hh, g, d, t, os⟩ := s
  exact make_core (makes_of X hm) (looks_findIn X hi) (fun self => bind_fn X self (beq_iff_eq.mp hf)) (.inl rfl) h

/-- x.name where the instance's dict holds the name and the class does not -/
theorem get_field {x C : Addr} {ox : Obj} {es : List DictEntry} {n : Nat} {name : Str} {expr : Bool} {v : Value} {Q : Value → Shared → Prop}
    (X : K.In s.heap) (I : PySem.W.InstAt s.heap x ox C (some (dictOf es n))) (hg : plainGet K C name = true) (hh : hasDictIn K C = true) (ha : findIn K (.ref C) name = some none)
    (hl : getL name es = some (some v)) (hv : handedIn v = true) (h : Q v { s with toks := s.toks + 1 }) : wpAny (model prog w) A (getAttr (.ref x) name expr) Q E s :=
  get_value X I (plainGet_of hg).1 (findObj_own hh ha rfl hl) hv h

/-- x.m(..): the method found in the class -/
theorem get_method {x C f : Addr} {ox : Obj} {es : List DictEntry} {n : Nat} {name : Str} {pl : Sem Bool} {Q : Value × List Value → Shared → Prop}
    (X : K.In s.heap) (I : PySem.W.InstAt s.heap x ox C (some (dictOf es n))) (hg : plainGet K C name = true) (hf : findIn K (.ref C) name = some (some (.ref f))) (ht : isFn K (.ref f) = true)
    (hl : getL name es = some none) (h : Q (.ref f, [.ref x]) s) : wpAny (model prog w) A (getMethod (.ref x) name pl) Q E s :=
  method_fn X I (plainGet_of hg).1 (plainGet_of hg).2 hf (beq_iff_eq.mp ht) (by show (lookIn name (dictOf es n)).map _ = _; rw [lookIn_dict, hl]; rfl) h

/-! the whole heap as the ledger: makes every rule that writes through a ledger a rule over any heap -/
def noObjs (h : Heap) : Heap := { h with objs := #[] }
theorem noObjs_get (h : Heap) (b : Addr) : (noObjs h).get? b = none := by
  cases e : (noObjs h).get? b with
  | none => rfl
  | some o => exact absurd (Heap.lt_size e) (Nat.not_lt_zero _)
def ledger (h : Heap) (L d : Addr) : List (Addr × Obj) := (List.range h.objs.size).filterMap fun a => if a = L ∨ a = d then none else (h.get? a).map fun o => (a, o)
theorem mem_ledger {h : Heap} {L d a : Addr} {o : Obj} : (a, o) ∈ ledger h L d ↔ a ≠ L ∧ a ≠ d ∧ h.get? a = some o := by
  unfold ledger
  rw [List.mem_filterMap]
  constructor
  · rintro ⟨b, _, e⟩
    split at e
    · cases e
    · rename_i hb
      obtain ⟨o', ho, e'⟩ := Option.map_eq_some_iff.mp e
      cases e'
      exact ⟨fun q => hb (.inl q), fun q => hb (.inr q), ho⟩
  · rintro ⟨n1, n2, ho⟩
    refine ⟨a, List.mem_range.mpr (Heap.lt_size ho), ?_⟩
    rw [if_neg (show ¬ (a = L ∨ a = d) from fun q => q.elim n1 n2), ho] <;> rfl
theorem news_ledger {h : Heap} {L d : Addr} {od : Obj} (hne : d ≠ L) (ho : h.get? d = some od) : News (noObjs h) L h ([] ++ (d, od) :: ledger h L d) := by
  rintro ⟨a, o⟩ hp
  rcases List.mem_cons.mp hp with e | hp
  · cases e
    exact ⟨ho, hne, noObjs_get _ _⟩
  · obtain ⟨n1, n2, e⟩ := mem_ledger.mp hp
    exact ⟨e, n1, noObjs_get _ _⟩
theorem fr_all {h : Heap} {L : Addr} {m : Str → Option Value} (n : h.Ns L m) : Fr (noObjs h) L h m :=
  ⟨n, fun b o e => (by rw [noObjs_get] at e; cases e), Nat.zero_le _⟩
/-- Upd of the head entry (for append_K, setItem_K ..) -/
theorem upd_ledger {h : Heap} {L d : Addr} {o o' : Obj} : Upd d o o' ((d, o) :: ledger h L d) ((d, o') :: ledger h L d) :=
  .head fun ⟨_, _⟩ hp => (mem_ledger.mp hp).2.1

/-- x.name = v over any heap: L is any namespace of the heap (the frame's, say): its map stays, its object is not told; all else but the dict stays -/
theorem set_field {x C dx L : Addr} {ox : Obj} {m : Str → Option Value} {es es' : List DictEntry} {n n' : Nat} {name : Str} {v : Value} {Q : Unit → Shared → Prop}
    (X : K.In s.heap) (I : PySem.W.InstAt s.heap x ox C (some (dictOf es n))) (hd : ox.dict = some dx) (hL : s.heap.Ns L m) (hne : dx ≠ L)
    (hs : findIn K (.ref C) "__setattr__" = some (some (.builtin "object.__setattr__"))) (hp : plainOver K C = true) (ht : takerIn K C name = some none) (hh : hasDictIn K C = true) (hl : (getL name es).isSome = true)
    (e : (putL name (PyData.keyHash w.params name) (.str name (s.toks + 1)) v es, putN name es n) = (es', n')) (hz : es'.length ≤ 1000)
    (h : ∀ h' : Heap, h'.Ns L m → h'.get? dx = some (dictOf es' n') → (∀ b o, b ≠ dx → b ≠ L → s.heap.get? b = some o → h'.get? b = some o) → Q () { s with heap := h', toks := s.toks + 2 }) :
    wpAny (model prog w) A (setAttr (.ref x) name v) Q E s := by
  obtain ⟨e1, e2⟩ := Prod.mk.inj e
  have hdx : s.heap.get? dx = some (dictOf es n) := by
    have := I.dict
    rw [hd] at this
    exact this
  refine set_plain X I hs (osa_dict (s := { s with toks := s.toks + 1 }) (h₀ := noObjs s.heap) (L := L) (m := m) (od := dictOf es n) (od' := dictOf es' n') (es := es') (n := n') (pre := []) (post := ledger s.heap L dx)
    (fr_all hL) (news_ledger hne hdx) X I hd hp ht hh hl (fun _ q => nomatch q) (fun ⟨_, _⟩ q => (mem_ledger.mp q).2.1) (by rw [putName_dict, e1, e2]) rfl hz fun h' F' N' => ?_)
  exact h h' F'.ns (N'.get (List.Mem.head _)) fun b o n1 n2 ho => N'.get (List.Mem.tail _ (mem_ledger.mpr ⟨n2, n1, ho⟩))
end
end Att

namespace L2
open PySem PySem.Spec PyProof.Rows

theorem vals_ints : ∀ {vs : List Value} {ns : List Int}, IntsAre vs ns → Vals (ns.map V.int) vs
  | _, _, .nil => .nil
  | _, _, .cons n t h => .cons ⟨t, rfl⟩ (vals_ints h)

/-- nothing is tracked but the script, known to the object (or it is an object of the module) -/
def Only (H : Hp) : Prop := ∀ b, H b = none ∨ ∃ o xs, H b = some (.frz o (.lst xs))

/-- THE HEAD: the law's promise, at the heap behind the top. F, the promise of the law's def, may use that base is part of the heap (so K.In base, base.Ns mainGlobals mg stand in Mod) -/
theorem law_call {P : Program} {w : World} {K : PySem.W.Frag} {mg mb : Str → Option Value} {CX : CXT} {k : Nat} {fa a : Addr} {fd : FuncData} {x : Str} {sp : Sp} {s₁ : Shared} {vs : List Value} {ns : List Int}
    (KX : K.In s₁.heap) (hns : s₁.heap.Ns mainGlobals mg) (hb : s₁.heap.Ns builtinsNs mb) (hbb : ∀ x : Str, x ≠ "__name__" → mb x = bootBuiltins x) (hlim : s₁.heap.NoLimit) (hg : s₁.gens = #[])
    (ha : s₁.heap.get? a = some { cls := .type "list", data := .seq vs.toArray }) (hi : IntsAre vs ns) (hl : ns.length ≤ sizeLine) (hr : Room k callerA)
    (F : ∀ base : Heap, K.In base → base.Ns mainGlobals mg → FnOk P w K mg base CX k fa fd [x] sp) (hbind : ∀ (s : Shared) (u : Value), BindsTo s fd ⟨[u], []⟩ [(x, u)])
    (hsp : ∀ H : Hp, Only H → SqL K H a (ns.map V.int) → sp [.ref a] H (fun v _ => v = .bl true) fun _ _ _ => False)
    (hCX : ∀ H e s', CX [] H s₁ (fun _ _ _ => False) e s' → False) :
    codeAny (model P w) callerA (.call (.ref fa) ⟨[.ref a], []⟩) (fun r s' => r = .ok (.ret (.bool true)) ∧ OldK s₁.heap s'.heap ∧ s'.os = s₁.os ∧ AllBare s'.gens) s₁ := by
  have rv := vals_ints hi
  have lenV := hi.length
  -- from an abstract heap in which nothing but the script may be tracked
  have core : ∀ H : Hp, Only H → SqL K H a (ns.map V.int) → HOk P w H s₁.heap → (∀ b, H b ≠ none → b = a) → (H a ≠ none → K.lookup a = none) →
      codeAny (model P w) callerA (.call (.ref fa) ⟨[.ref a], []⟩) (fun r s' => r = .ok (.ret (.bool true)) ∧ OldK s₁.heap s'.heap ∧ s'.os = s₁.os ∧ AllBare s'.gens) s₁ := by
    intro H hO hS hok hA hK
    have base_of : ∀ {b : Addr} {o : Obj}, s₁.heap.get? b = some o → H b = none → (hidT s₁.heap H).get? b = some o := fun e n => hidT_get e n
    have noA : ∀ {b : Addr} {o : Obj} {es : Array DictEntry} {ep : Nat}, s₁.heap.get? b = some o → o.data = .dict es ep → H b = none := fun {b o es ep} e d => by
      cases q : H b with
      | none => rfl
      | some u =>
        have e' : b = a := hA b (by rw [q]; simp)
        subst e'
        rw [ha] at e; cases e
        have d' : Data.seq vs.toArray _ = Data.dict es ep := d
        cases d'
    have nsK : ∀ {b : Addr} {m : Str → Option Value}, s₁.heap.Ns b m → (hidT s₁.heap H).Ns b m := fun {b m} ⟨o, es, ep, e, d, r⟩ => ⟨o, es, ep, base_of e (noA e d), d, r⟩
    have hKb : K.In (hidT s₁.heap H) := fun b o e => base_of (KX b o e) (by
      cases q : H b with
      | none => rfl
      | some u =>
        have e' : b = a := hA b (by rw [q]; simp)
        subst e'
        rw [hK (by rw [q]; simp)] at e; cases e)
    have hM : Mod K mg (hidT s₁.heap H) := ⟨hKb, nsK hns, ⟨mb, nsK hb, hbb⟩, let ⟨mc, h1, h2⟩ := hlim; ⟨mc, nsK h1, h2⟩⟩
    have e0 : Env0 P w K mg (hidT s₁.heap H) callerA [] s₁ H := ⟨rfl, hM, fun b o e => of_hidT e, Nat.le_of_eq (hidT_size _ _), trivial, fun b hb => absurd (show b ∈ ([] : List Addr) from hb) (by simp), hok, .of_eq hg⟩
    refine codeAny_mono ((F _ hKb (nsK hns)).run callerA [] s₁ H ⟨[.ref a], []⟩ [.ref a] [.ref a] _ _ hr e0 (hbind s₁ (.ref a)) (.cons rfl .nil) (hsp H hO hS)) fun r s' h => ?_
    cases r with
    | error e => exact (hCX H e s' h).elim
    | ok fl =>
      cases fl with
      | next => exact False.elim h
      | brk => exact False.elim h
      | cont => exact False.elim h
      | ret u =>
        obtain ⟨v, H', os, bare, un, hok', r', q⟩ := h
        have q' : v = .bl true := q
        subst q'
        obtain rfl : u = Value.bool true := r'
        refine ⟨rfl, OldK.of_keep fun b o e => ?_, os, bare⟩
        cases q : H b with
        | none => exact un.keep b o e q (by intro z; exact absurd (show b ∈ ([] : List Addr) from z) (by simp)) (by simp)
        | some u =>
          rcases hO b with z | ⟨ob, xs, z⟩
          · rw [q] at z; cases z
          · have z2 := un.frzs b ob _ z
            obtain ⟨e1, _⟩ := hok b _ z
            obtain ⟨e2, _⟩ := hok' b _ z2
            rw [e] at e1; cases e1
            exact e2
  cases hk : K.lookup a with
  | some o =>
    -- the script is one of the module's own objects
    have e := KX a o hk
    rw [ha] at e
    cases e
    refine core (fun _ => none) (fun _ => .inl rfl) (.inr ⟨_, vs.toArray, _, hk, rfl, rfl, rfl, by rw [List.size_toArray, lenV]; exact hl, by simpa using rv⟩) (fun b u z => by have z' : (none : Option HO) = some u := z; cases z') (fun b z => absurd rfl z) fun z => absurd rfl z
  | none =>
    refine core (fun b => if b = a then some (.frz { cls := .type "list", data := .seq vs.toArray } (.lst (ns.map V.int))) else none) (fun b => ?_) (.inl (.inr ⟨{ cls := .type "list", data := .seq vs.toArray }, if_pos rfl⟩)) (fun b u z => ?_) (fun b z => ?_) fun _ => hk
    · by_cases hb : b = a
      · exact .inr ⟨_, _, if_pos hb⟩
      · exact .inl (if_neg hb)
    · by_cases hb : b = a
      · have z' := (if_pos hb).symm.trans z
        cases z'
        subst hb
        exact ⟨ha, by rw [List.length_map]; exact hl, vs, _, rv, ha⟩
      · have z' := (if_neg hb).symm.trans z
        cases z'
    · by_cases hb : b = a
      · exact hb
      · exact absurd (if_neg hb) z
end L2

namespace L2
open PySem PySem.Spec PyProof.Rows

abbrev KOf {K : PySem.W.Frag} {h : Heap} (_ : K.In h) : PySem.W.Frag := K

/-- the goal that k_head leaves (case hc), from the law's promise. F gives the function object fd (K's own) once, then the promise over every base -/
theorem walk_of {l : PySem.W.OpenLaw} {n k : Nat} {q : Program} {loose : List Str} {XP : (Str → Option Value) → Heap → Prop} {YP : World → Heap → Prop} {d : DefRec} {K : Params → PySem.W.Frag} {CX : World → CXT} {sp : World → Sp} {x : Str}
    (hn : l.most = some n) (hn2 : n ≤ sizeLine) (hdf : d.params.defaults = []) (hr : Room k callerA)
    (hY : ∀ (w : World) (h : Heap), YP w h → (K w.params).In h)
    (F : ∀ (w : World) (mg : Str → Option Value) (fa : Addr) (h : Heap), (K w.params).In h → h.Ns mainGlobals mg → mg d.name = some (.ref fa) →
      ∃ fd : FuncData, (∀ (s : Shared) (u : Value), BindsTo s fd ⟨[u], []⟩ [(x, u)]) ∧
        ∀ base : Heap, (K w.params).In base → base.Ns mainGlobals mg → FnOk l.prog w (K w.params) mg base (CX w) k fa fd [x] (sp w))
    (hsp : ∀ (w : World) (H : Hp) (a : Addr) (ns : List Int), ns.length ≤ n → Only H → SqL (K w.params) H a (ns.map V.int) → sp w [.ref a] H (fun v _ => v = .bl true) fun _ _ _ => False)
    (hCX : ∀ (w : World) (H : Hp) (s : Shared) (e : Value) (s' : Shared), CX w [] H s (fun _ _ _ => False) e s' → False) :
    PySem.W.WalkO q loose XP YP l.row.toRowW d [] (fun f vs => PySem.call f vs) := by
  refine Att.attach_call hn hdf fun w s₀ s₁ mg mb fa o pm cd doc a vs ns G Y ho hd hcd hmg hobj hints hlen hg => ?_
  have KX := hY w _ Y
  obtain ⟨fd, hb, hF⟩ := F w mg fa _ KX G.T.g hmg
  exact law_call KX G.T.g G.T.b G.T.builtins G.T.nolimit hg hobj hints (Nat.le_trans hlen hn2) hr hF hb (fun H hO hS => hsp w H a ns hlen hO hS) fun H e s' => hCX w H s₁ e s'
/-- the same where the promise hangs on the written part alone: (sp := My.sp_law), no hole under a binder -/
theorem walk_ofK {l : PySem.W.OpenLaw} {n k : Nat} {q : Program} {loose : List Str} {XP : (Str → Option Value) → Heap → Prop} {YP : World → Heap → Prop} {d : DefRec} {K : Params → PySem.W.Frag} {CX : CXT} {sp : PySem.W.Frag → Sp} {x : Str}
    (hn : l.most = some n) (hn2 : n ≤ sizeLine) (hdf : d.params.defaults = []) (hr : Room k callerA)
    (hY : ∀ (w : World) (h : Heap), YP w h → (K w.params).In h)
    (F : ∀ (w : World) (mg : Str → Option Value) (fa : Addr) (h : Heap), (K w.params).In h → h.Ns mainGlobals mg → mg d.name = some (.ref fa) →
      ∃ fd : FuncData, (∀ (s : Shared) (u : Value), BindsTo s fd ⟨[u], []⟩ [(x, u)]) ∧
        ∀ base : Heap, (K w.params).In base → base.Ns mainGlobals mg → FnOk l.prog w (K w.params) mg base CX k fa fd [x] (sp (K w.params)))
    (hsp : ∀ (K : PySem.W.Frag) (H : Hp) (a : Addr) (ns : List Int), ns.length ≤ n → Only H → SqL K H a (ns.map V.int) → sp K [.ref a] H (fun v _ => v = .bl true) fun _ _ _ => False)
    (hCX : ∀ (H : Hp) (s : Shared) (e : Value) (s' : Shared), CX [] H s (fun _ _ _ => False) e s' → False) :
    PySem.W.WalkO q loose XP YP l.row.toRowW d [] (fun f vs => PySem.call f vs) :=
  walk_of (K := K) (CX := fun _ => CX) (sp := fun w => sp (K w.params)) hn hn2 hdf hr hY F (fun w H a ns h1 h2 h3 => hsp (K w.params) H a ns h1 h2 h3) fun _ H s e s' => hCX H s e s'
end L2

/- THE LAST THEOREM (shape; LID, My.* are yours):
   My.Adr: a structure of the addresses that your layer names (classes, functions); My.Txt K t: a structure (Prop) of the equations over K;
   My.txt_mk : {K} {implicit addresses ..} (e1 : nsIn K mainGlobals "law" = some (some (.ref f))) (e2 : K.lookup f = some ⟨oc, od, .func (fnOf "law" "law" params body scope dV kV doc pm an cdv ct), sl⟩) (e3 : codeIn K cdv "law" = true) .. : ∃ t, My.Txt K t

set_option maxRecDepth 100000 in
set_option maxHeartbeats 0 in
theorem PySem.Challenge.cw_LID_holds : PySem.Challenge.rw_LID.Holds := by
  w_on; o_law; k_head; (case hw => w_witness2)
  k_fill
  refine L2.walk_of (l := PySem.Challenge.rw_LID) (n := 63) (k := 40) (x := "script") (CX := fun w => ..) (sp := fun _ => My.sp_law) rfl (by decide) rfl ⟨rfl, by decide, by decide⟩ (fun w h Y => PySem.W.kIn_of Y) ?F ?S ?C
  case F =>
    intro w mg fa h KX G hmg
    have T : ∃ t, My.Txt (L2.KOf KX) t := by
      dsimp only [L2.KOf]                          -- K must stand as «<heap const> w.params» for k_is
      refine' My.txt_mk ?e1 ?e2 ?e3 ..
      (case e1 => PySem.W.k_is)                    -- in the order: a name -> its address -> its object -> its parts
      (case e2 => PySem.W.k_is)
      ..
    obtain ⟨t, T⟩ := T
    have e0 := hmg.symm.trans (PySem.W.mg_of KX G T.law)
    cases e0                                       -- fa is the law's own address
    exact ⟨_, fun s u => .of_eq rfl, fun base kb nb => My.law_fn T kb nb⟩     -- if «.of_eq rfl» comes too early: refine' ⟨_, ?b, fun base kb nb => My.law_fn T kb nb⟩; exact fun s u => .of_eq rfl
  case S => exact fun w H a ns hl hO hS => ..
  case C => exact ..
(the tactic k_is has no namespace: write k_is) -/

/-! SHORT WORDS over the layer: a def of the text, its body, what a loop and a test want. -/
namespace L2
open PySem PySem.Spec PyProof.Rows

/-! ### the text by places -/
/-- the j-th statement of a class's body -/
def inClass (s : Stmt) (j : Nat) : Stmt := match s with
  | .ClassDef _ _ _ body _ _ _ _ _ _ _ => body.getD j (.Pass ⟨0, 0, 0, 0⟩)
  | _ => .Pass ⟨0, 0, 0, 0⟩
def defArgs (s : Stmt) : Arguments := match s with
  | .FunctionDef _ a _ _ _ _ _ _ _ _ => a
  | _ => { posonlyargs := [], args := [], vararg := none, kwonlyargs := [], kw_defaults := [], kwarg := none, defaults := [] }
def defBody (s : Stmt) : List Stmt := match s with
  | .FunctionDef _ _ b _ _ _ _ _ _ _ => b
  | _ => []
def defScope (s : Stmt) : Scope := match s with
  | .FunctionDef _ _ _ _ _ _ sc _ _ _ => sc
  | _ => { kind := .function, names := [], isGenerator := false, isCoroutine := false }

/-! ### no exception leaves a def -/
abbrev CX0 : CXT := fun _ _ _ _ _ _ => False
abbrev E0 : XK := fun _ _ _ => False
theorem pass0 {X : Cx} : Passes CX0 X E0 := fun _ _ _ _ _ _ _ h => h.elim

/-! ### a def (or method) of the text as it stands behind the top -/
structure Fun (K : PySem.W.Frag) (x qual : Str) (st : Stmt) (f : Addr) (fd : FuncData) : Prop where
  ex : ∃ (oc : Value) (od : Option Addr) (kV doc pm : Value) (an : Option Addr) (cdv ct : Value) (osl : Array (Option Value)),
    fd = PySem.W.fnOf x qual (defArgs st) (defBody st) (defScope st) .none kV doc pm an cdv ct ∧ K.lookup f = some ⟨oc, od, .func fd, osl⟩ ∧ PySem.W.codeIn K cdv qual = true
  kp : PySem.W.keepIn K (.ref f) = true
section
variable {P : Program} {w : World} {K : PySem.W.Frag} {mg : Str → Option Value} {base : Heap}
/-- THE RULE for a def: its body as a term of rules, and the reading of that term -/
theorem Fun.ok {x qual : Str} {st : Stmt} {f : Addr} {fd : FuncData} {N ps : List Str} {k : Nat} {sp : Sp} (F : Fun K x qual st f fd) (S : FnScope N ps (defScope st)) (len : ∀ vs H Q E, sp vs H Q E → vs.length = ps.length)
    (hbody : ∀ (cdv : Value) (A : Around) (outer : List Env) (s : Shared) (H : Hp) (vs : List V) (Q : VK) (E : XK), Room k (A.deeper (envOfC qual (defScope st) s.heap.objs.size f cdv)) → sp vs H Q E →
      ∃ t, PSs (cxOf CX0 P w K mg base N qual (defScope st) f cdv A outer s H E).nox (defBody st) t ∧ t { nx := fun _ H' => Q .non H', rt := Q } (start N vs) H) : FnOk P w K mg base CX0 (k + 1) f fd ps sp := by
  obtain ⟨oc, od, kV, doc, pm, an, cdv, ct, osl, rfl, lk, hcd⟩ := F.ex
  refine fn_of lk hcd S len fun A outer s H vs Q E hr hsp => ?_
  obtain ⟨t, h, q⟩ := hbody cdv A outer s H vs Q E hr hsp
  exact ⟨t, h.nox, q⟩
/-- how its arguments bind (no defaults): h is «fun _ _ _ _ _ _ us hl => match us, hl with | [_, _], _ => rfl», one _ a parameter -/
theorem Fun.binds {x qual : Str} {st : Stmt} {f : Addr} {fd : FuncData} {ps : List Str} (F : Fun K x qual st f fd)
    (h : ∀ (kV doc pm : Value) (an : Option Addr) (cdv ct : Value) (us : List Value), us.length = ps.length → bindArgs (PySem.W.fnOf x qual (defArgs st) (defBody st) (defScope st) .none kV doc pm an cdv ct) ⟨us, []⟩ = pure (ps.zip us)) : Binds K fd ps [] := by
  obtain ⟨oc, od, kV, doc, pm, an, cdv, ct, osl, rfl, lk, hcd⟩ := F.ex
  exact .all (h kV doc pm an cdv ct)
theorem fun_mk {x qual : Str} {st : Stmt} {f : Addr} {oc : Value} {od an : Option Addr} {osl : Array (Option Value)} {kV doc pm cdv ct : Value} (l : K.lookup f = some ⟨oc, od, .func (PySem.W.fnOf x qual (defArgs st) (defBody st) (defScope st) .none kV doc pm an cdv ct), osl⟩)
    (c : PySem.W.codeIn K cdv qual = true) (k : PySem.W.keepIn K (.ref f) = true) : Fun K x qual st f (PySem.W.fnOf x qual (defArgs st) (defBody st) (defScope st) .none kV doc pm an cdv ct) := ⟨⟨oc, od, kV, doc, pm, an, cdv, ct, osl, rfl, l, c⟩, k⟩
end
theorem hu_of {A : Around} {k : Nat} (hr : Room k A) : A.units + 1 < cLine := Nat.lt_of_le_of_lt (Nat.add_le_add_left (by decide : 1 ≤ 64) _) hr.units
theorem small1000 {n : Nat} (h : n ≤ 1000) : n < sizeLine := Nat.lt_of_le_of_lt h (by decide)

/-! ### expressions in short: the name that stands in the i-th slot -/
section
variable {X : Cx}
theorem pv (i : Nat) {x : Str} {pos : Pos} (hN : X.N[i]? = some x := by rfl) (hv : Vis X.env.scope x := by first | exact Or.inl rfl | exact Or.inr (Or.inl rfl) | exact Or.inr (Or.inr rfl)) (hd : (x == ("__debug__" : Str)) = false := by decide)
    (hcd : (x == ("__classdict__" : Str)) = false := by decide) : PE X (.Name x pos) (tVar i) := pe_var hN hv hd hcd
end

/-! ### tests -/
theorem iteF {A B : Prop} (h : B) : if false = true then A else B := by
  rw [if_neg Bool.false_ne_true]
  exact h
theorem iteT {A B : Prop} (h : A) : if true = true then A else B := by
  rw [if_pos rfl]
  exact h
theorem ite2 {c A B : Prop} [Decidable c] (h1 : c → A) (h2 : ¬ c → B) : if c then A else B := by
  by_cases h : c
  · rw [if_pos h]
    exact h1 h
  · rw [if_neg h]
    exact h2 h
theorem iteNS {c A B : Prop} [Decidable c] (hc : c) (h : B) : if (!decide c) = true then A else B := by
  rw [decide_eq_true hc]
  exact iteF h

/-! ### heaps -/
/-- all that was tracked is as it was -/
def Same (H H' : Hp) : Prop := ∀ b o, H b = some o → H' b = some o
theorem Same.refl (H : Hp) : Same H H := fun _ _ h => h
theorem Same.trans {H H1 H2 : Hp} (a : Same H H1) (b : Same H1 H2) : Same H H2 := fun c o h => b c o (a c o h)
theorem Same.free {H H' : Hp} (e : Same H H') {l : Addr} (h : H' l = Option.none) : H l = Option.none := by
  cases q : H l with
  | none => rfl
  | some o =>
    rw [e l o q] at h
    cases h
theorem Same.seq {K : PySem.W.Frag} {H H' : Hp} {a : Addr} {xs : List V} (e : Same H H') (h : SqL K H a xs) : SqL K H' a xs := by
  rcases h with (h | ⟨o, h⟩) | h
  · exact .inl (.inl (e _ _ h))
  · exact .inl (.inr ⟨o, e _ _ h⟩)
  · exact .inr h

end L2

set_option linter.all false
namespace L2
/-! ### broken words, as lists of codes -/
def joinL (sep : List Nat) : List (List Nat) → List Nat
  | [] => []
  | [x] => x
  | x :: y :: r => x ++ sep ++ joinL sep (y :: r)
theorem joinL_cons {sep x : List Nat} : ∀ {r : List (List Nat)}, r ≠ [] → joinL sep (x :: r) = x ++ sep ++ joinL sep r
  | [], h => absurd rfl h
  | _ :: _, _ => rfl
theorem joinL_nil : ∀ ls : List (List Nat), joinL [] ls = ls.flatten
  | [] => rfl
  | [x] => by simp [joinL]
  | x :: y :: r => by
    have := joinL_nil (y :: r)
    simp only [joinL, this, List.append_nil, List.flatten_cons]
/-- what stands ahead of and at letter k -/
def bit (w gs : List Nat) (k : Nat) : List Nat := (if k ∈ gs then [45] else []) ++ [w.getD k 0]
def txt (w gs : List Nat) (n : Nat) : List Nat := (List.range n).flatMap (bit w gs)
theorem txt_succ (w gs : List Nat) (n : Nat) : txt w gs (n + 1) = txt w gs n ++ ((if n ∈ gs then [45] else []) ++ [w.getD n 0]) := by
  unfold txt
  rw [List.range_succ, List.flatMap_append]
  simp [bit]
theorem txt_length (w gs : List Nat) (n : Nat) : (txt w gs n).length ≤ 2 * n := by
  induction n with
  | zero => simp [txt]
  | succ n ih =>
    rw [txt_succ, List.length_append, List.length_append]
    split <;> simp <;> omega
/-- the parts -/
def pieces (w : List Nat) : Nat → List Nat → List (List Nat)
  | b, [] => [w.drop b]
  | b, g :: gs => (w.take g).drop b :: pieces w g gs
theorem pieces_ne (w : List Nat) : ∀ b gs, pieces w b gs ≠ []
  | _, [] => by simp [pieces]
  | _, _ :: _ => by simp [pieces]
/-- the gaps rise, and lie within -/
def Rise (b n : Nat) : List Nat → Prop
  | [] => True
  | g :: gs => b < g ∧ g < n ∧ Rise g n gs
theorem Rise.mem {n : Nat} : ∀ {b : Nat} {gs : List Nat}, Rise b n gs → ∀ g ∈ gs, b < g ∧ g < n
  | _, [], _, g, h => by cases h
  | b, g :: gs, r, k, h => by
    rcases List.mem_cons.mp h with rfl | h
    · exact ⟨r.1, r.2.1⟩
    · have := Rise.mem r.2.2 k h
      exact ⟨Nat.lt_trans r.1 this.1, this.2⟩
theorem plain_run (w : List Nat) : ∀ (m b : Nat), b + m ≤ w.length → (List.range' b m).flatMap (fun k => [w.getD k 0]) = (w.drop b).take m
  | 0, b, _ => by simp
  | m + 1, b, h => by
    have hb : b < w.length := by omega
    rw [List.range'_succ, List.flatMap_cons, plain_run w m (b + 1) (by omega), List.drop_eq_getElem_cons hb, List.take_succ_cons]
    simp [List.getD_eq_getElem?_getD, hb]
theorem flatMap_congr' {f g : Nat → List Nat} : ∀ {l : List Nat}, (∀ k ∈ l, f k = g k) → l.flatMap f = l.flatMap g
  | [], _ => rfl
  | a :: l, h => by
    rw [List.flatMap_cons, List.flatMap_cons, h a List.mem_cons_self, flatMap_congr' fun k hk => h k (List.mem_cons_of_mem _ hk)]
theorem shown_run (w : List Nat) : ∀ (gs : List Nat) (b : Nat), Rise b w.length gs → b ≤ w.length → joinL [45] (pieces w b gs) = (List.range' b (w.length - b)).flatMap (bit w gs)
  | [], b, _, hb => by
    have e : (List.range' b (w.length - b)).flatMap (bit w []) = (List.range' b (w.length - b)).flatMap (fun k => [w.getD k 0]) := flatMap_congr' fun k _ => by simp [bit]
    rw [e, plain_run w _ b (by omega)]
    simp only [pieces, joinL]
    rw [List.take_of_length_le (by simp)]
  | g :: gs, b, r, hb => by
    obtain ⟨r1, r2, r3⟩ := r
    have ih := shown_run w gs g r3 (Nat.le_of_lt r2)
    have hs : List.range' b (w.length - b) = List.range' b (g - b) ++ List.range' g (w.length - g) := by
      have : w.length - b = (g - b) + (w.length - g) := by omega
      have e2 : b + (g - b) = g := by omega
      rw [this, ← List.range'_append_1, e2]
    have hg : List.range' g (w.length - g) = g :: List.range' (g + 1) (w.length - (g + 1)) := by
      have : w.length - g = (w.length - (g + 1)) + 1 := by omega
      rw [this, List.range'_succ]
    have f1 : (List.range' b (g - b)).flatMap (bit w (g :: gs)) = (w.drop b).take (g - b) := by
      rw [← plain_run w (g - b) b (by omega)]
      refine flatMap_congr' fun k hk => ?_
      have hk' : b ≤ k ∧ k < g := by
        have := List.mem_range'.mp hk
        omega
      have : k ∉ g :: gs := fun z => by
        rcases List.mem_cons.mp z with z | z
        · omega
        · have := (Rise.mem r3 k z).1; omega
      simp only [bit, if_neg this, List.nil_append]
    have hn : g ∉ gs := fun z => Nat.lt_irrefl _ (Rise.mem r3 g z).1
    have f2 : (List.range' (g + 1) (w.length - (g + 1))).flatMap (bit w (g :: gs)) = (List.range' (g + 1) (w.length - (g + 1))).flatMap (bit w gs) := by
      refine flatMap_congr' fun k hk => ?_
      have hk' : g < k := by
        have := List.mem_range'.mp hk
        omega
      have e : (k ∈ g :: gs) ↔ k ∈ gs := by
        rw [List.mem_cons]
        constructor
        · rintro (z | z)
          · omega
          · exact z
        · exact Or.inr
      unfold bit
      simp only [e]
    rw [pieces, joinL_cons (pieces_ne _ _ _), ih, hs, List.flatMap_append, f1, hg, List.flatMap_cons, List.flatMap_cons, f2]
    have b1 : bit w (g :: gs) g = [45, w.getD g 0] := by simp [bit]
    have b2 : bit w gs g = [w.getD g 0] := by simp [bit, hn]
    rw [b1, b2, List.drop_take]
    simp
theorem shown_eq (w gs : List Nat) (r : Rise 0 w.length gs) : joinL [45] (pieces w 0 gs) = txt w gs w.length := by
  rw [shown_run w gs 0 r (Nat.zero_le _)]
  unfold txt
  rw [List.range_eq_range', Nat.sub_zero]
/-! reading -/
def isLow (c : Nat) : Bool := decide (97 ≤ c ∧ c ≤ 122)
def Low (l : List Nat) : Prop := ∀ c ∈ l, isLow c = true
structure RS where
  w : List Nat
  g : List Nat
  lacks : Bool
def rstep (s : RS) (c : Nat) : Option RS :=
  if isLow c = true then some ⟨s.w ++ [c], s.g, false⟩ else if c = 45 ∧ s.lacks = false then some ⟨s.w, s.g ++ [s.w.length], true⟩ else none
def rrun : List Nat → RS → Option RS
  | [], s => some s
  | c :: r, s => (rstep s c).bind (rrun r)
theorem rrun_append : ∀ (a b : List Nat) (s : RS), rrun (a ++ b) s = (rrun a s).bind (rrun b)
  | [], _, _ => rfl
  | c :: a, b, s => by
    simp only [List.cons_append, rrun]
    cases rstep s c with
    | none => rfl
    | some t => simp only [Option.bind_some]; exact rrun_append a b t
theorem read_txt {w gs : List Nat} (hw : Low w) (r : Rise 0 w.length gs) : ∀ k, k ≤ w.length → rrun (txt w gs k) ⟨[], [], true⟩ = some ⟨w.take k, gs.filter (· < k), decide (k = 0)⟩
  | 0, _ => by simp [txt, rrun]
  | k + 1, h => by
    have ih := read_txt hw r k (by omega)
    have hk : k < w.length := h
    have hc : w.getD k 0 = w[k] := by simp [List.getD_eq_getElem?_getD, hk]
    have hl : isLow w[k] = true := hw _ (List.getElem_mem hk)
    have ht : w.take (k + 1) = w.take k ++ [w[k]] := by rw [List.take_succ, List.getElem?_eq_getElem hk]; rfl
    rw [txt_succ, rrun_append, ih, Option.bind_some]
    have hfl : ∀ {b : Nat} {l : List Nat}, Rise b w.length l → l.filter (· < k + 1) = l.filter (· < k) ++ (if k ∈ l then [k] else []) := by
      intro b l
      induction l generalizing b with
      | nil => intro _; simp
      | cons g l ihl =>
        intro rr
        have i2 := ihl rr.2.2
        by_cases e : g = k
        · subst e
          have hn : g ∉ l := fun z => Nat.lt_irrefl _ (Rise.mem rr.2.2 g z).1
          have hz : l.filter (· < g) = [] := by
            rw [List.filter_eq_nil_iff]
            intro a ha
            have := (Rise.mem rr.2.2 a ha).1
            simp; omega
          rw [if_neg hn, hz] at i2
          simp [i2, hz]
        · have e' : ¬ k = g := fun z => e z.symm
          have em : (k ∈ g :: l) ↔ k ∈ l := by simp [e']
          by_cases hg : g < k
          · have hg2 : g < k + 1 := by omega
            simp only [List.filter_cons, hg, hg2, decide_true, if_true, i2, em, List.cons_append]
          · have hg2 : ¬ g < k + 1 := by omega
            simp only [List.filter_cons, hg, hg2, decide_false, Bool.false_eq_true, if_false, i2, em]
    have hf := hfl r
    by_cases hm : k ∈ gs
    · have h0 : k ≠ 0 := by have := (Rise.mem r k hm).1; omega
      rw [if_pos hm] at hf ⊢
      rw [hc, hf, ht]
      have hlt : (w.take k).length = k := by rw [List.length_take]; omega
      have n45 : isLow 45 = false := by decide
      simp [rrun, rstep, n45, h0, hl, hlt]
    · rw [if_neg hm] at hf ⊢
      rw [hc, hf, ht]
      simp [rrun, rstep, hl]
theorem read_all {w gs : List Nat} (hw : Low w) (r : Rise 0 w.length gs) (h0 : 1 ≤ w.length) : rrun (txt w gs w.length) ⟨[], [], true⟩ = some ⟨w, gs, false⟩ := by
  rw [read_txt hw r _ (Nat.le_refl _), List.take_length]
  have e : gs.filter (· < w.length) = gs := by
    rw [List.filter_eq_self]
    intro a ha
    have := (Rise.mem r a ha).2
    simpa using this
  rw [e]
  have : ¬ w.length = 0 := by omega
  simp [this]
end L2

set_option linter.all false
namespace L2
open PySem PySem.Builtin PySem.Builtin.Str
/-! ### texts as lists of codes -/
def S (l : List Nat) : Str := ⟨l.toArray⟩
theorem S_cps (l : List Nat) : (S l).cps.toList = l := rfl
theorem S_of (z : Str) : S z.cps.toList = z := by cases z; rfl
theorem S_length (l : List Nat) : (S l).length = l.length := by show l.toArray.size = _; simp
theorem S_append (a b : List Nat) : S a ++ S b = S (a ++ b) := by
  show (⟨a.toArray ++ b.toArray⟩ : Str) = ⟨(a ++ b).toArray⟩
  rw [List.append_toArray]
theorem S_one (c : Nat) : (⟨#[c]⟩ : Str) = S [c] := rfl
theorem S_inj {a b : List Nat} (h : S a = S b) : a = b := by
  have := congrArg (fun z : Str => z.cps.toList) h
  exact this
theorem S_eq {a b : List Nat} : S a = S b ↔ a = b := ⟨S_inj, fun h => h ▸ rfl⟩
/-- a slice's bound as a place among n -/
def sx (n d : Nat) : Option Int → Nat
  | none => d
  | some v => if v < 0 then (v + (n : Int)).toNat else min v.toNat n
def cutA {α : Type} (l : List α) (lo hi : Option Int) : List α := (l.drop (sx l.length 0 lo)).take (sx l.length l.length hi - sx l.length 0 lo)
theorem sx_le (n d : Nat) (hd : d ≤ n) (o : Option Int) : sx n d o ≤ n := by
  cases o with
  | none => exact hd
  | some v => simp only [sx]; split <;> omega
theorem sliceIx (lo hi : Option Int) (n : Nat) : strSliceIndices lo hi 1 n = (List.range (sx n n hi - sx n 0 lo)).map (sx n 0 lo + ·) := by
  have key : ∀ (a c : Nat), sliceRange (a : Int) (c : Int) 1 = (List.range (c - a)).map (a + ·) := fun a c => by
    unfold sliceRange
    have e : (if (1 : Int) > 0 then (if (a : Int) < (c : Int) then ((c : Int) - a + 1 - 1) / 1 else 0) else (if (a : Int) > (c : Int) then ((a : Int) - c - 1 - 1) / (-1) else 0)).toNat = c - a := by
      rw [if_pos (by decide)]
      split
      · rw [Int.ediv_one]; omega
      · omega
    simp only [e]
    apply List.map_congr_left
    intro k _
    omega
  have cl : ∀ v : Int, max 0 (min (if v < 0 then v + (n : Int) else v) (n : Int)) = (((if v < 0 then (v + (n : Int)).toNat else min v.toNat n) : Nat) : Int) := fun v => by
    by_cases hv : v < 0
    · simp only [if_pos hv]; omega
    · simp only [if_neg hv]; omega
  unfold strSliceIndices
  have h1 : ((1 : Int) > 0) = True := by simp
  cases lo with
  | none =>
    cases hi with
    | none => simp only [h1, if_true]; exact key 0 n
    | some v => simp only [h1, if_true, cl]; exact key 0 _
  | some u =>
    cases hi with
    | none => simp only [h1, if_true, cl]; exact key _ n
    | some v => simp only [h1, if_true, cl]; exact key _ _
theorem pickL (l : List Nat) : ∀ (m a : Nat), a + m ≤ l.length → ((List.range m).map (a + ·)).filterMap (l.toArray[·]?) = (l.drop a).take m
  | 0, a, _ => by simp
  | m + 1, a, h => by
    have ha : a < l.length := by omega
    rw [List.range_succ_eq_map, List.map_cons, List.filterMap_cons, List.map_map]
    have e : ((a + ·) ∘ Nat.succ) = ((a + 1) + ·) := by funext k; simp; omega
    have := pickL l m (a + 1) (by omega)
    rw [e, this, List.drop_eq_getElem_cons ha, List.take_succ_cons]
    simp [ha]
theorem slice_raw (l : List Nat) (lo hi : Option Int) :
    (if ((1 : Int) == 1 && (strSliceIndices lo hi 1 (S l).length).length == (S l).length) = true then S l else ⟨((strSliceIndices lo hi 1 (S l).length).filterMap ((S l).cps[·]?)).toArray⟩ : Str) = S (cutA l lo hi) := by
  have h1 := sx_le l.length l.length (Nat.le_refl _) hi
  have h2 := sx_le l.length 0 (Nat.zero_le _) lo
  rw [S_length, sliceIx]
  unfold cutA
  generalize sx l.length l.length hi = c at *
  generalize sx l.length 0 lo = a at *
  split
  · rename_i hc
    simp only [List.length_map, List.length_range, beq_self_eq_true, Bool.true_and, beq_iff_eq] at hc
    by_cases h0 : l.length = 0
    · have : l = [] := List.length_eq_zero_iff.mp h0
      subst this; simp
    · have ha : a = 0 := by omega
      have hc' : c = l.length := by omega
      subst ha hc'
      simp
  · by_cases hac : a ≤ c
    · show S _ = S _
      congr 1
      exact pickL l _ a (by omega)
    · have : c - a = 0 := by omega
      rw [this]
      simp [S]
theorem occ_stop (s sub : Str) (hi : Nat) : ∀ (l : List Nat) (arr : Array Nat) (f : Nat), 1 ≤ arr.size → (forIn l (arr, f) (StrLaws.occBody s sub hi 1)).run.fst = arr
  | [], _, _, _ => rfl
  | a :: l, arr, f, h => by
    rw [List.forIn_cons]
    unfold StrLaws.occBody
    have c : ¬ ((((arr, f).fst.size < 1 ∧ (arr, f).snd ≤ a) ∧ a + sub.length ≤ hi) ∧ subAt s sub a = true) := fun q => by
      have t : arr.size < 1 := q.1.1.1
      omega
    rw [if_neg c]
    exact occ_stop s sub hi l arr f h
theorem occ_first (s sub : Str) (hi : Nat) : ∀ (l : List Nat) (f : Nat), (∀ i ∈ l, f ≤ i) →
    (forIn l ((#[] : Array Nat), f) (StrLaws.occBody s sub hi 1)).run.fst.toList = (l.find? fun i => decide (i + sub.length ≤ hi) && subAt s sub i).toList
  | [], _, _ => rfl
  | a :: l, f, hf => by
    rw [List.forIn_cons]
    unfold StrLaws.occBody
    have ha : f ≤ a := hf a List.mem_cons_self
    by_cases hc : a + sub.length ≤ hi ∧ subAt s sub a = true
    · have c1 : ((((#[] : Array Nat), f).fst.size < 1 ∧ ((#[] : Array Nat), f).snd ≤ a) ∧ a + sub.length ≤ hi) ∧ subAt s sub a = true := ⟨⟨⟨by simp, ha⟩, hc.1⟩, hc.2⟩
      rw [if_pos c1]
      have e := occ_stop s sub hi l (#[].push a) (a + sub.length) (by simp)
      have e2 : (decide (a + sub.length ≤ hi) && subAt s sub a) = true := by simp [hc.1, hc.2]
      rw [List.find?_cons, e2]
      show ((forIn l ((#[] : Array Nat).push a, a + sub.length) (StrLaws.occBody s sub hi 1)).run.fst).toList = _
      rw [e]
      simp
    · have c2 : ¬ (((((#[] : Array Nat), f).fst.size < 1 ∧ ((#[] : Array Nat), f).snd ≤ a) ∧ a + sub.length ≤ hi) ∧ subAt s sub a = true) := fun q => hc ⟨q.1.2, q.2⟩
      rw [if_neg c2]
      have e2 : (decide (a + sub.length ≤ hi) && subAt s sub a) = false := by
        rw [Bool.eq_false_iff]
        intro q
        simp only [Bool.and_eq_true, decide_eq_true_eq] at q
        exact hc q
      rw [List.find?_cons, e2]
      exact occ_first s sub hi l f fun i hi' => hf i (List.mem_cons_of_mem _ hi')
/-- these signs stand at place i -/
def fits (p l : List Nat) (i : Nat) : Bool := decide (i + p.length ≤ l.length) && ((l.drop i).take p.length == p)
theorem subAt_S (l p : List Nat) (i : Nat) : subAt (S l) (S p) i = ((l.drop i).take p.length == p) := by
  rw [StrLaws.subAt_eq, S_length]; rfl
theorem occ_S (l p : List Nat) (k : Nat) : occurrences (S l) (S p) k (S l).length 1 = ((List.range' k (l.length + 1 - k)).find? (fits p l)).toList := by
  rw [StrLaws.occ_eq, S_length, occ_first _ _ _ _ k (fun i hi => by have := List.mem_range'.mp hi; omega)]
  have e : (fun i => decide (i + (S p).length ≤ l.length) && subAt (S l) (S p) i) = fits p l := by
    funext i
    rw [subAt_S, S_length]; rfl
  rw [e]
/-- the first place from k on -/
def findL (p l : List Nat) (k : Nat) : Int := match (List.range' k (l.length + 1 - k)).find? (fits p l) with
  | some i => (i : Int)
  | none => -1
theorem find_raw (l p : List Nat) (k : Nat) : (match occurrences (S l) (S p) k (S l).length 1 with | i :: _ => (i : Int) | [] => -1) = findL p l k := by
  rw [occ_S]
  unfold findL
  cases (List.range' k (l.length + 1 - k)).find? (fits p l) <;> rfl
theorem joinS (sep : List Nat) : ∀ ls : List (List Nat), Str.join (S sep) (ls.map S) = S (joinL sep ls)
  | [] => rfl
  | [x] => rfl
  | x :: y :: r => by
    have ih := joinS sep (y :: r)
    show S x ++ S sep ++ Str.join (S sep) ((y :: r).map S) = _
    rw [ih, S_append, S_append]
    rfl
theorem has_one (big : List Nat) (c : Nat) : (!(occurrences (S big) (S [c]) 0 (S big).length 1).isEmpty) = decide (c ∈ big) := by
  have := StrLaws.found_one (S big) c
  exact this
end L2

set_option linter.all false
namespace L2
/-! ### values: the plain reading -/
abbrev Pat := List Nat × List Int
def mx (a b : Int) : Int := if b > a then b else a
theorem mx_le {a b c : Int} : mx a b ≤ c ↔ a ≤ c ∧ b ≤ c := by unfold mx; split <;> omega
theorem mx_l (a b : Int) : a ≤ mx a b := by unfold mx; split <;> omega
theorem mx_r (a b : Int) : b ≤ mx a b := by unfold mx; split <;> omega
theorem mx_eq (a b : Int) : mx a b = a ∨ mx a b = b := by unfold mx; split <;> omega
def put (t : List Int) (p : Nat) (v : Int) : List Int := t.set p (mx (t.getD p 0) v)
theorem put_length (t : List Int) (p : Nat) (v : Int) : (put t p v).length = t.length := by unfold put; simp
theorem put_get (t : List Int) (p q : Nat) (v : Int) (hq : q < t.length) : (put t p v).getD q 0 = if p = q then mx (t.getD q 0) v else t.getD q 0 := by
  unfold put
  simp only [List.getD_eq_getElem?_getD, List.getElem?_set]
  by_cases h : p = q
  · subst h; simp [hq]
  · simp [h]
def laid (t : List Int) (b : Nat) : List Int → List Int
  | [] => t
  | v :: r => laid (put t b v) (b + 1) r
theorem laid_snoc (b : Nat) (v : Int) : ∀ (r : List Int) (t : List Int) (c : Nat), laid t c (r ++ [v]) = put (laid t c r) (c + r.length) v
  | [], t, c => by simp [laid]
  | x :: r, t, c => by
    simp only [List.cons_append, laid, List.length_cons]
    rw [laid_snoc b v r]
    congr 1; omega
theorem laid_length : ∀ (ns : List Int) (t : List Int) (b : Nat), (laid t b ns).length = t.length
  | [], _, _ => rfl
  | v :: r, t, b => by simp only [laid]; rw [laid_length r, put_length]
/-- what comes to place p -/
def laidN (m : Int) (p b : Nat) : List Int → Int
  | [] => m
  | v :: r => laidN (if b = p then mx m v else m) p (b + 1) r
theorem laid_get : ∀ (ns : List Int) (t : List Int) (b q : Nat), q < t.length → (laid t b ns).getD q 0 = laidN (t.getD q 0) q b ns
  | [], _, _, _, _ => rfl
  | v :: r, t, b, q, h => by
    simp only [laid, laidN]
    rw [laid_get r _ _ q (by rw [put_length]; exact h), put_get t b q v h]
def places (p f : List Nat) : List Nat := (List.range f.length).filter (fits p f)
def tellP (f : List Nat) (t : List Int) (x : Pat) : List Int := (places x.1 f).foldl (fun t b => laid t b x.2) t
def tellA (f : List Nat) (t : List Int) (xs : List Pat) : List Int := xs.foldl (tellP f) t
def numP (f : List Nat) (p : Nat) (m : Int) (x : Pat) : Int := (places x.1 f).foldl (fun m b => laidN m p b x.2) m
def numA (f : List Nat) (p : Nat) (m : Int) (xs : List Pat) : Int := xs.foldl (numP f p) m
theorem foldl_laid (ns : List Int) : ∀ (bs : List Nat) (t : List Int), (bs.foldl (fun t b => laid t b ns) t).length = t.length ∧ ∀ q, q < t.length → (bs.foldl (fun t b => laid t b ns) t).getD q 0 = bs.foldl (fun m b => laidN m q b ns) (t.getD q 0)
  | [], t => ⟨rfl, fun _ _ => rfl⟩
  | b :: bs, t => by
    obtain ⟨h1, h2⟩ := foldl_laid ns bs (laid t b ns)
    rw [laid_length] at h1 h2
    refine ⟨by simpa using h1, fun q hq => ?_⟩
    simp only [List.foldl_cons]
    rw [h2 q hq, laid_get ns t b q hq]
theorem tellA_get (f : List Nat) : ∀ (xs : List Pat) (t : List Int), (tellA f t xs).length = t.length ∧ ∀ q, q < t.length → (tellA f t xs).getD q 0 = numA f q (t.getD q 0) xs
  | [], t => ⟨rfl, fun _ _ => rfl⟩
  | x :: xs, t => by
    obtain ⟨h1, h2⟩ := foldl_laid x.2 (places x.1 f) t
    obtain ⟨h3, h4⟩ := tellA_get f xs (tellP f t x)
    have e : (tellP f t x).length = t.length := h1
    rw [e] at h3 h4
    refine ⟨h3, fun q hq => ?_⟩
    show (tellA f (tellP f t x) xs).getD q 0 = _
    rw [h4 q hq]
    show numA f q ((tellP f t x).getD q 0) xs = numA f q (numP f q (t.getD q 0) x) xs
    rw [show (tellP f t x).getD q 0 = numP f q (t.getD q 0) x from h2 q hq]
def frame (w : List Nat) : List Nat := 46 :: (w ++ [46])
theorem frame_length (w : List Nat) : (frame w).length = w.length + 2 := by simp [frame]
/-- the values of the gaps -/
def vals (xs : List Pat) (w : List Nat) : List Int := (List.range (w.length - 1)).map fun j => numA (frame w) (j + 2) 0 xs
theorem vals_length (xs : List Pat) (w : List Nat) : (vals xs w).length = w.length - 1 := by simp [vals]
theorem vals_get (xs : List Pat) (w : List Nat) (j : Nat) (h : j < w.length - 1) : (vals xs w)[j]? = some (numA (frame w) (j + 2) 0 xs) := by
  simp [vals, h]
theorem rep_get (n q : Nat) : (List.replicate n (0 : Int)).getD q 0 = 0 := by
  simp only [List.getD_eq_getElem?_getD, List.getElem?_replicate]; split <;> rfl
theorem ext_getD {a b : List Int} (h : a.length = b.length) (k : ∀ q, q < a.length → a.getD q 0 = b.getD q 0) : a = b := by
  apply List.ext_getElem h
  intro i h1 h2
  have := k i h1
  simpa [List.getD_eq_getElem?_getD, h1, h2] using this
theorem program_vals (xs : List Pat) (w : List Nat) (h : 1 ≤ w.length) : cutA (tellA (frame w) (List.replicate ((frame w).length + 1) 0) xs) (some 2) (some (-2)) = vals xs w := by
  obtain ⟨h1, h2⟩ := tellA_get (frame w) xs (List.replicate ((frame w).length + 1) 0)
  rw [List.length_replicate] at h1 h2
  unfold cutA
  rw [h1]
  rw [frame_length] at h1 h2 ⊢
  have e1 : sx (w.length + 2 + 1) 0 (some 2) = 2 := by simp only [sx]; rw [if_neg (by decide)]; show min 2 (w.length + 2 + 1) = 2; omega
  have e2 : sx (w.length + 2 + 1) (w.length + 2 + 1) (some (-2)) = w.length + 1 := by simp only [sx]; rw [if_pos (by decide)]; omega
  rw [e1, e2]
  apply ext_getD
  · rw [vals_length, List.length_take, List.length_drop, h1]; omega
  · intro q hq
    rw [List.length_take, List.length_drop, h1] at hq
    have hq' : q < w.length - 1 := by omega
    have := h2 (2 + q) (by omega)
    rw [rep_get] at this
    have e3 : (vals xs w).getD q 0 = numA (frame w) (q + 2) 0 xs := by rw [List.getD_eq_getElem?_getD, vals_get xs w q hq']; rfl
    rw [e3, Nat.add_comm q 2, ← this]
    simp only [List.getD_eq_getElem?_getD, List.getElem?_take, List.getElem?_drop]
    rw [if_pos (by omega)]
/-! the other reading: only the gaps are kept -/
def lput (n : Nat) (t : List Int) (p : Nat) (v : Int) : List Int := if 2 ≤ p ∧ p ≤ n then put t (p - 2) v else t
def llaid (n : Nat) (t : List Int) (b : Nat) : List Int → List Int
  | [] => t
  | v :: r => llaid n (lput n t b v) (b + 1) r
theorem llaid_snoc (n : Nat) (v : Int) : ∀ (r : List Int) (t : List Int) (c : Nat), llaid n t c (r ++ [v]) = lput n (llaid n t c r) (c + r.length) v
  | [], t, c => by simp [llaid]
  | x :: r, t, c => by
    simp only [List.cons_append, llaid, List.length_cons]
    rw [llaid_snoc n v r]
    congr 1; omega
theorem lput_length (n : Nat) (t : List Int) (p : Nat) (v : Int) : (lput n t p v).length = t.length := by
  unfold lput; split
  · rw [put_length]
  · rfl
theorem llaid_length (n : Nat) : ∀ (ns : List Int) (t : List Int) (b : Nat), (llaid n t b ns).length = t.length
  | [], _, _ => rfl
  | v :: r, t, b => by simp only [llaid]; rw [llaid_length n r, lput_length]
theorem llaid_get (n : Nat) : ∀ (ns : List Int) (t : List Int) (b j : Nat), t.length = n - 1 → j < n - 1 → (llaid n t b ns).getD j 0 = laidN (t.getD j 0) (j + 2) b ns
  | [], _, _, _, _, _ => rfl
  | v :: r, t, b, j, ht, hj => by
    simp only [llaid, laidN]
    rw [llaid_get n r _ _ j (by rw [lput_length]; exact ht) hj]
    congr 1
    unfold lput
    by_cases hb : 2 ≤ b ∧ b ≤ n
    · rw [if_pos hb, put_get t (b - 2) j v (by omega)]
      by_cases e : b = j + 2
      · rw [if_pos e, if_pos (by omega)]
      · rw [if_neg e, if_neg (by omega)]
    · rw [if_neg hb, if_neg (by omega)]
def lawP (n : Nat) (f : List Nat) (t : List Int) (x : Pat) : List Int := (places x.1 f).foldl (fun t b => llaid n t b x.2) t
def lawA (n : Nat) (f : List Nat) (t : List Int) (xs : List Pat) : List Int := xs.foldl (lawP n f) t
theorem foldl_llaid (n : Nat) (ns : List Int) : ∀ (bs : List Nat) (t : List Int), t.length = n - 1 → (bs.foldl (fun t b => llaid n t b ns) t).length = n - 1 ∧ ∀ j, j < n - 1 → (bs.foldl (fun t b => llaid n t b ns) t).getD j 0 = bs.foldl (fun m b => laidN m (j + 2) b ns) (t.getD j 0)
  | [], t, h => ⟨h, fun _ _ => rfl⟩
  | b :: bs, t, h => by
    obtain ⟨h1, h2⟩ := foldl_llaid n ns bs (llaid n t b ns) (by rw [llaid_length]; exact h)
    refine ⟨by simpa using h1, fun j hj => ?_⟩
    simp only [List.foldl_cons]
    rw [h2 j hj, llaid_get n ns t b j h hj]
theorem lawA_get (n : Nat) (f : List Nat) : ∀ (xs : List Pat) (t : List Int), t.length = n - 1 → (lawA n f t xs).length = n - 1 ∧ ∀ j, j < n - 1 → (lawA n f t xs).getD j 0 = numA f (j + 2) (t.getD j 0) xs
  | [], t, h => ⟨h, fun _ _ => rfl⟩
  | x :: xs, t, h => by
    obtain ⟨h1, h2⟩ := foldl_llaid n x.2 (places x.1 f) t h
    obtain ⟨h3, h4⟩ := lawA_get n f xs (lawP n f t x) h1
    refine ⟨h3, fun j hj => ?_⟩
    show (lawA n f (lawP n f t x) xs).getD j 0 = _
    rw [h4 j hj]
    show numA f (j + 2) ((lawP n f t x).getD j 0) xs = numA f (j + 2) (numP f (j + 2) (t.getD j 0) x) xs
    rw [show (lawP n f t x).getD j 0 = numP f (j + 2) (t.getD j 0) x from h2 j hj]
theorem law_vals (xs : List Pat) (w : List Nat) : lawA w.length (frame w) (List.replicate (w.length - 1) 0) xs = vals xs w := by
  obtain ⟨h1, h2⟩ := lawA_get w.length (frame w) xs (List.replicate (w.length - 1) 0) (by simp)
  apply ext_getD
  · rw [h1, vals_length]
  · intro j hj
    rw [h1] at hj
    rw [h2 j hj, rep_get, List.getD_eq_getElem?_getD, vals_get xs w j hj]; rfl
/-! places, one behind the other -/
def placesFrom (p f : List Nat) (k : Nat) : List Nat := (List.range' k (f.length + 1 - k)).filter (fits p f)
theorem places_all {p f : List Nat} (hp : p ≠ []) : placesFrom p f 0 = places p f := by
  unfold placesFrom places
  rw [Nat.sub_zero, ← List.range_eq_range', List.range_succ, List.filter_append]
  have : fits p f f.length = false := by
    unfold fits
    have : 0 < p.length := List.length_pos_iff.mpr hp
    rw [decide_eq_false (by omega)]; rfl
  simp [this]
theorem fits_lt {p f : List Nat} {i : Nat} (hp : p ≠ []) (h : fits p f i = true) : i < f.length := by
  unfold fits at h
  have : 0 < p.length := List.length_pos_iff.mpr hp
  simp only [Bool.and_eq_true, decide_eq_true_eq] at h
  omega
theorem find_step (p f : List Nat) : ∀ (m k : Nat), (List.range' k m).find? (fits p f) = none → (List.range' k m).filter (fits p f) = [] := fun m k h => by
  rw [List.filter_eq_nil_iff]
  intro a ha
  have := List.find?_eq_none.mp h a ha
  exact this
theorem find_some (p f : List Nat) : ∀ (m k i : Nat), (List.range' k m).find? (fits p f) = some i → k ≤ i ∧ i < k + m ∧ fits p f i = true ∧ (List.range' k m).filter (fits p f) = i :: (List.range' (i + 1) (k + m - (i + 1))).filter (fits p f)
  | 0, k, i, h => by simp at h
  | m + 1, k, i, h => by
    rw [List.range'_succ, List.find?_cons] at h
    cases hk : fits p f k with
    | true =>
      rw [hk] at h
      cases h
      refine ⟨Nat.le_refl _, by omega, hk, ?_⟩
      rw [List.range'_succ, List.filter_cons, hk, if_pos rfl]
      congr 3
      omega
    | false =>
      rw [hk] at h
      obtain ⟨h1, h2, h3, h4⟩ := find_some p f m (k + 1) i h
      refine ⟨by omega, by omega, h3, ?_⟩
      rw [List.range'_succ, List.filter_cons, hk, if_neg Bool.false_ne_true, h4]
      congr 3
      omega
theorem findL_neg {p f : List Nat} {k : Nat} (h : findL p f k < 0) : placesFrom p f k = [] := by
  unfold findL at h
  split at h
  · omega
  · rename_i e; exact find_step p f _ _ e
theorem findL_pos {p f : List Nat} {k : Nat} (hk : k ≤ f.length) (h : 0 ≤ findL p f k) : ∃ i : Nat, findL p f k = i ∧ k ≤ i ∧ i ≤ f.length ∧ fits p f i = true ∧ placesFrom p f k = i :: placesFrom p f (i + 1) := by
  unfold findL at h ⊢
  split at h
  · rename_i i e
    obtain ⟨h1, h2, h3, h4⟩ := find_some p f _ _ _ e
    refine ⟨i, rfl, h1, by omega, h3, ?_⟩
    unfold placesFrom
    rw [h4]
    congr 3
    omega
  · omega
/-! ### the greatest number: facts -/
theorem laidN_eq (p : Nat) : ∀ (ns : List Int) (m : Int) (b : Nat), laidN m p b ns = if b ≤ p ∧ p < b + ns.length then mx m (ns.getD (p - b) 0) else m
  | [], m, b => by
    simp only [laidN, List.length_nil]
    rw [if_neg (by omega)]
  | v :: r, m, b => by
    simp only [laidN, List.length_cons]
    rw [laidN_eq p r]
    by_cases e : b = p
    · subst e
      rw [if_pos rfl, if_neg (by omega), if_pos (by omega), Nat.sub_self]; rfl
    · rw [if_neg e]
      by_cases h : b + 1 ≤ p ∧ p < b + 1 + r.length
      · have : p - b = (p - (b + 1)) + 1 := by omega
        rw [if_pos h, if_pos (by omega), this]; rfl
      · rw [if_neg h, if_neg (by omega)]
/-- some pattern tells v for place p -/
def Tells (f : List Nat) (p : Nat) (xs : List Pat) (v : Int) : Prop := ∃ x ∈ xs, ∃ b ∈ places x.1 f, b ≤ p ∧ p < b + x.2.length ∧ v = x.2.getD (p - b) 0
theorem numP_le (f : List Nat) (p : Nat) (x : Pat) (m c : Int) : numP f p m x ≤ c ↔ m ≤ c ∧ ∀ b ∈ places x.1 f, b ≤ p → p < b + x.2.length → x.2.getD (p - b) 0 ≤ c := by
  unfold numP
  generalize places x.1 f = bs
  induction bs generalizing m with
  | nil => simp
  | cons b bs ih =>
    simp only [List.foldl_cons]
    rw [ih, laidN_eq]
    constructor
    · rintro ⟨h1, h2⟩
      split at h1
      · rename_i hc
        have := mx_le.mp h1
        refine ⟨this.1, fun b' hb' k1 k2 => ?_⟩
        rcases List.mem_cons.mp hb' with rfl | hb'
        · exact this.2
        · exact h2 b' hb' k1 k2
      · rename_i hc
        refine ⟨h1, fun b' hb' k1 k2 => ?_⟩
        rcases List.mem_cons.mp hb' with rfl | hb'
        · exact absurd ⟨k1, k2⟩ hc
        · exact h2 b' hb' k1 k2
    · rintro ⟨h1, h2⟩
      refine ⟨?_, fun b' hb' => h2 b' (List.mem_cons_of_mem _ hb')⟩
      split
      · rename_i hc
        exact mx_le.mpr ⟨h1, h2 b List.mem_cons_self hc.1 hc.2⟩
      · exact h1
theorem numA_le (f : List Nat) (p : Nat) : ∀ (xs : List Pat) (m c : Int), numA f p m xs ≤ c ↔ m ≤ c ∧ ∀ v, Tells f p xs v → v ≤ c
  | [], m, c => by
    show m ≤ c ↔ _
    constructor
    · exact fun h => ⟨h, fun v ⟨x, hx, _⟩ => by cases hx⟩
    · exact fun h => h.1
  | x :: xs, m, c => by
    show numA f p (numP f p m x) xs ≤ c ↔ _
    rw [numA_le f p xs, numP_le]
    constructor
    · rintro ⟨⟨h1, h2⟩, h3⟩
      refine ⟨h1, fun v ⟨y, hy, b, hb, k1, k2, e⟩ => ?_⟩
      rcases List.mem_cons.mp hy with rfl | hy
      · rw [e]; exact h2 b hb k1 k2
      · exact h3 v ⟨y, hy, b, hb, k1, k2, e⟩
    · rintro ⟨h1, h2⟩
      exact ⟨⟨h1, fun b hb k1 k2 => h2 _ ⟨x, List.mem_cons_self, b, hb, k1, k2, rfl⟩⟩, fun v ⟨y, hy, r⟩ => h2 v ⟨y, List.mem_cons_of_mem _ hy, r⟩⟩
theorem numA_ge {f : List Nat} {p : Nat} {xs : List Pat} {m v : Int} (h : Tells f p xs v) : v ≤ numA f p m xs := ((numA_le f p xs m _).mp (Int.le_refl _)).2 v h
theorem numA_ge0 {f : List Nat} {p : Nat} {xs : List Pat} {m : Int} : m ≤ numA f p m xs := ((numA_le f p xs m _).mp (Int.le_refl _)).1
theorem Tells_append {f : List Nat} {p : Nat} {xs ys : List Pat} {v : Int} : Tells f p (xs ++ ys) v ↔ Tells f p xs v ∨ Tells f p ys v := by
  unfold Tells
  constructor
  · rintro ⟨x, hx, r⟩
    rcases List.mem_append.mp hx with h | h
    · exact .inl ⟨x, h, r⟩
    · exact .inr ⟨x, h, r⟩
  · rintro (⟨x, hx, r⟩ | ⟨x, hx, r⟩)
    · exact ⟨x, List.mem_append_left _ hx, r⟩
    · exact ⟨x, List.mem_append_right _ hx, r⟩
theorem numA_append (f : List Nat) (p : Nat) (xs ys : List Pat) : numA f p 0 (xs ++ ys) = mx (numA f p 0 xs) (numA f p 0 ys) := by
  have le : ∀ c, numA f p 0 (xs ++ ys) ≤ c ↔ mx (numA f p 0 xs) (numA f p 0 ys) ≤ c := fun c => by
    rw [numA_le, mx_le, numA_le, numA_le]
    constructor
    · rintro ⟨h1, h2⟩
      exact ⟨⟨h1, fun v t => h2 v (Tells_append.mpr (.inl t))⟩, ⟨h1, fun v t => h2 v (Tells_append.mpr (.inr t))⟩⟩
    · rintro ⟨⟨h1, h2⟩, ⟨_, h3⟩⟩
      exact ⟨h1, fun v t => (Tells_append.mp t).elim (h2 v) (h3 v)⟩
  have a := (le _).mp (Int.le_refl _)
  have b := (le _).mpr (Int.le_refl _)
  omega
end L2

namespace L2
open PySem
def clTo (cells : List (Str × Addr)) : List (Str × NameKind) → List (Str × Addr) → List (Str × Addr)
  | [], acc => acc
  | (n, k) :: r, acc => if k == .free then clTo cells r ((n, (cells.lookup n).getD 0) :: acc) else clTo cells r acc
theorem closureFor_to {scope : Scope} {env : Env} (h : ∀ y ∈ scope.names, y.2 = .free → ∃ c, env.cells.lookup y.1 = some c) :
    closureFor scope env = pure (clTo env.cells scope.names []) := by
  simp only [closureFor]
  generalize ([] : List (Str × Addr)) = acc
  revert h
  generalize scope.names = l
  intro h
  have key : ∀ (l : List (Str × NameKind)) (acc : List (Str × Addr)), (∀ y ∈ l, y.2 = .free → ∃ c, env.cells.lookup y.1 = some c) →
      (forIn l acc (fun x r => if (x.snd == NameKind.free) = true then do
            let a ← cellOf env x.fst
            pure (ForInStep.yield ((x.fst, a) :: r)) else pure (ForInStep.yield r)) : Sem _) = pure (clTo env.cells l acc) := by
    intro l
    induction l with
    | nil => intro acc _; rfl
    | cons y l ih =>
      intro acc h
      obtain ⟨n, k⟩ := y
      rw [List.forIn_cons]
      have hr := fun y hy => h y (List.mem_cons_of_mem _ hy)
      by_cases hk : (k == NameKind.free) = true
      · obtain ⟨c, hc⟩ := h (n, k) List.mem_cons_self (by simpa using hk)
        have hc' : env.cells.lookup n = some c := hc
        have e1 : cellOf env n = pure c := by unfold cellOf; rw [hc']
        simp only [hk, if_true, e1, clTo, hc', Option.getD_some, pure_bind]
        exact ih _ hr
      · simp only [Bool.not_eq_true] at hk
        simp only [hk, Bool.false_eq_true, if_false, clTo, pure_bind]
        exact ih _ hr
  rw [key l acc h]
  rfl
theorem clTo_free {cells : List (Str × Addr)} {x : Str} : ∀ (l : List (Str × NameKind)) (acc : List (Str × Addr)), ((x, NameKind.free) ∈ l ∨ acc.lookup x = some ((cells.lookup x).getD 0)) →
    (clTo cells l acc).lookup x = some ((cells.lookup x).getD 0)
  | [], acc, h => by
    rcases h with h | h
    · cases h
    · exact h
  | (n, k) :: r, acc, h => by
    unfold clTo
    by_cases hk : (k == NameKind.free) = true
    · rw [if_pos hk]
      refine clTo_free r _ ?_
      by_cases e : x = n
      · subst e; right; simp
      · rcases h with h | h
        · left
          rcases List.mem_cons.mp h with h | h
          · injection h with h1 _; exact absurd h1 e
          · exact h
        · right
          rw [List.lookup_cons, beq_eq_false_iff_ne.mpr e]; exact h
    · rw [if_neg hk]
      refine clTo_free r _ ?_
      rcases h with h | h
      · left
        rcases List.mem_cons.mp h with h | h
        · injection h with _ h2; rw [← h2] at hk; exact absurd rfl hk
        · exact h
      · exact .inr h
theorem clTo_of {cells : List (Str × Addr)} {x : Str} {c : Addr} : ∀ (l : List (Str × NameKind)) (acc : List (Str × Addr)), (clTo cells l acc).lookup x = some c →
    acc.lookup x = some c ∨ ((x, NameKind.free) ∈ l ∧ c = (cells.lookup x).getD 0)
  | [], acc, h => .inl h
  | (n, k) :: r, acc, h => by
    unfold clTo at h
    by_cases hk : (k == NameKind.free) = true
    · rw [if_pos hk] at h
      rcases clTo_of r _ h with q | ⟨q1, q2⟩
      · by_cases e : x = n
        · subst e
          rw [List.lookup_cons, beq_self_eq_true] at q
          have hk' : k = .free := by simpa using hk
          subst hk'
          exact .inr ⟨List.mem_cons_self, (Option.some.inj q).symm⟩
        · rw [List.lookup_cons, beq_eq_false_iff_ne.mpr e] at q
          exact .inl q
      · exact .inr ⟨List.mem_cons_of_mem _ q1, q2⟩
    · rw [if_neg hk] at h
      rcases clTo_of r _ h with q | ⟨q1, q2⟩
      · exact .inl q
      · exact .inr ⟨List.mem_cons_of_mem _ q1, q2⟩
section
variable {prog : Program} {w : World} {A : Around}
  {R : Result → Shared → Prop} {s : Shared}
theorem compLoop_any {M : Model} (hM : M = model prog w) {elt target iter : Expr} {ifs : List Expr} {scope : Scope} {pos : Pos} {it acc : Value} {env : Env} (I : Nat → Shared → Prop)
    (turn : ∀ n s, I n s → wpAny M A (pyNext it) (fun r z₁ => match r with
      | none => R (.ok .next) z₁
      | some v => wpAny M A (letOwnedTupleGo target it v) (fun _ z₀ => wpAny M A (assign target env v) (fun _ z₂ =>
          wpAny M A (forIn ifs true fun c r => if r = true then do let ok ← isTrue c env (eval c env); pure (ForInStep.yield ok) else pure (ForInStep.yield r)) (fun ok z₃ =>
            if ok = true then wpAny M A (eval elt env) (fun x z₄ =>
              wpAny M A (call (.builtin "list.append") [acc, x]) (fun _ z₅ => ∃ m, m < n ∧ I m z₅) (notedBy M A env fun e s' => R (.error e) s') z₄) (notedBy M A env fun e s' => R (.error e) s') z₃
            else ∃ m, m < n ∧ I m z₃) (notedBy M A env fun e s' => R (.error e) s') z₂) (notedBy M A env fun e s' => R (.error e) s') z₀) (notedBy M A env fun e s' => R (.error e) s') z₁) (notedBy M A env fun e s' => R (.error e) s') s)
    (n : Nat) (h : I n s) :
    codeAny M A (.compLoop (.ListComp elt [⟨target, iter, ifs, 0⟩] scope pos) 0 it acc env) R s := by
  subst hM
  refine codeAny_loop rfl I (fun k z hz => ?_) n h
  show wpAny _ A (Sem.onRaise (compTurn (.ListComp elt [⟨target, iter, ifs, 0⟩] scope pos) 0 it acc env) _) _ _ z
  rw [compTurn_list]
  refine wpAny_noted (wpAny_bind (wpAny_standAt (wpAny_bind (wpAny_mono (turn k z hz) (fun r z1 g1 => ?_) fun _ _ e => e))))
  match r, g1 with
  | none, g1 => exact wpAny_pure g1
  | some v, g1 =>
    refine wpAny_bind (wpAny_mono g1 (fun _ z2 g2 => wpAny_bind (wpAny_mono g2 (fun _ z3 g3 => wpAny_bind (wpAny_mono g3 (fun b z4 g4 => ?_) fun _ _ e => e)) fun _ _ e => e)) fun _ _ e => e)
    match b, g4 with
    | false, g4 => exact wpAny_pure ⟨rfl, g4⟩
    | true, g4 =>
      refine wpAny_bind (wpAny_bind (wpAny_mono g4 (fun y z5 g5 => wpAny_bind (wpAny_mono g5 (fun _ z6 g6 => ?_) fun _ _ e => e)) fun _ _ e => e))
      exact wpAny_pure (wpAny_pure ⟨rfl, g6⟩)
end
end L2

set_option Elab.async false
set_option linter.all false
set_option maxRecDepth 100000
namespace L2
open PySem PySem.Spec PyProof.Rows

/-! ### a list comprehension -/
def pick1 (σ : St) : Option Nat → Option V
  | none => none
  | some j => match σ[j]? with
    | some (some v) => some v
    | _ => none
def pick (ix : List (Option Nat)) (σ : St) : St := ix.map (pick1 σ)
theorem pick_get {ix : List (Option Nat)} {σ : St} {i : Nat} {v : V} (h : (pick ix σ)[i]? = some (some v)) : ∃ j, ix[i]? = some (some j) ∧ σ[j]? = some (some v) := by
  unfold pick at h
  rw [List.getElem?_map] at h
  cases e : ix[i]? with
  | none => rw [e] at h; cases h
  | some o =>
    rw [e] at h
    have h' : pick1 σ o = some v := Option.some.inj h
    cases o with
    | none => cases h'
    | some j =>
      refine ⟨j, rfl, ?_⟩
      unfold pick1 at h'
      dsimp only at h'
      split at h'
      · rename_i q; rw [q, h']
      · cases h'
def cxComp (X : Cx) (pins : List (Addr × Obj)) (scope : Scope) (N' : List Str) (fp : List Addr) (s3 : Shared) (H3 : Hp) : Cx where
  prog := X.prog
  w := X.w
  K := X.K
  mg := X.mg
  base := X.base
  A := X.A
  N := N'
  s₀ := s3
  H₀ := H3
  env := compEnvC scope (clTo X.env.cells scope.names []) s3.heap.objs.size X.env
  outer := X.stack
  stack := X.stack
  ex := fp
  fn := fun _ => false
  calm := X.calm
  pn := X.pn ++ pins
  xe := fun _ _ => False
def linkOk (names : List (Str × NameKind)) (N : List Str) : List (Option Nat) → List Str → Bool
  | [], [] => true
  | none :: r, _ :: q => linkOk names N r q
  | some j :: r, x :: q => N[j]? == some x && names.lookup x == some .free && linkOk names N r q
  | _, _ => false
def compOk (sc : Scope) (N : List Str) (scope : Scope) (N' : List Str) (ix : List (Option Nat)) : Bool :=
  scope.names.all (fun y => y.2 != .cell) && scope.names.all (fun y => y.2 != .local || scope.names.lookup y.1 == some .local)
    && scope.names.all (fun y => y.2 != .free || (sc.names.lookup y.1 == some .cell || sc.names.lookup y.1 == some .free)) && linkOk scope.names N ix N'
theorem linkOk_len {names : List (Str × NameKind)} {N : List Str} : ∀ {ix : List (Option Nat)} {N' : List Str}, linkOk names N ix N' = true → ix.length = N'.length
  | [], [], _ => rfl
  | none :: r, _ :: q, h => by simp only [linkOk] at h; simp [linkOk_len h]
  | some j :: r, x :: q, h => by simp only [linkOk, Bool.and_eq_true] at h; simp [linkOk_len h.2]
  | [], _ :: _, h => by simp [linkOk] at h
  | none :: _, [], h => by simp [linkOk] at h
  | some _ :: _, [], h => by simp [linkOk] at h
theorem linkOk_get {names : List (Str × NameKind)} {N : List Str} : ∀ {ix : List (Option Nat)} {N' : List Str} {i j : Nat} {x : Str}, linkOk names N ix N' = true → ix[i]? = some (some j) → N'[i]? = some x →
    N[j]? = some x ∧ names.lookup x = some .free
  | [], [], _, _, _, _, e, _ => by simp at e
  | none :: r, _ :: q, 0, _, _, _, e, _ => by simp at e
  | none :: r, _ :: q, i + 1, _, _, h, e, e' => by
    simp only [linkOk] at h
    exact linkOk_get h (by simpa using e) (by simpa using e')
  | some j :: r, x :: q, 0, _, _, h, e, e' => by
    simp only [linkOk, Bool.and_eq_true] at h
    simp at e e'
    subst e; subst e'
    exact ⟨by simpa using h.1.1, by simpa using h.1.2⟩
  | some j :: r, x :: q, i + 1, _, _, h, e, e' => by
    simp only [linkOk, Bool.and_eq_true] at h
    exact linkOk_get h.2 (by simpa using e) (by simpa using e')
  | [], _ :: _, _, _, _, h, _, _ => by simp [linkOk] at h
  | none :: _, [], _, _, _, h, _, _ => by simp [linkOk] at h
  | some _ :: _, [], _, _, _, h, _, _ => by simp [linkOk] at h
theorem mem_of_lookup {α β : Type} [BEq α] [LawfulBEq α] {x : α} {k : β} : ∀ {l : List (α × β)}, l.lookup x = some k → (x, k) ∈ l
  | [], h => by cases h
  | (n, k') :: r, h => by
    rw [List.lookup_cons] at h
    by_cases e : x == n
    · rw [e] at h
      have e' : x = n := by simpa using e
      cases h
      rw [e']; exact List.mem_cons_self
    · have e' : (x == n) = false := by simpa using e
      rw [e'] at h
      exact List.mem_cons_of_mem _ (mem_of_lookup h)
/-- the names as a comprehension's block sees them -/
theorem relabel_back {env : Env} {x : Str} {k : NameKind} : ∀ {names : List (Str × NameKind)}, (∀ y ∈ names, y.2 ≠ .cell) →
    (names.map fun (n, k) => if (k == NameKind.free && env.scope.kind == .function && env.kindOf n == some .cell) then (n, NameKind.cell) else (n, k)).lookup x = some k → (k = .cell ∨ k = .free) → (x, NameKind.free) ∈ names
  | [], _, h, _ => by cases h
  | (n, k') :: r, hc, h, hk => by
    rw [List.map_cons] at h
    have hc' := fun y hy => hc y (List.mem_cons_of_mem _ hy)
    have hk' : k' ≠ .cell := hc (n, k') List.mem_cons_self
    by_cases e : x = n
    · subst e
      dsimp only at h
      split at h
      · rename_i q
        rw [List.lookup_cons, beq_self_eq_true] at h
        have : k' = .free := by simp only [Bool.and_eq_true] at q; simpa using q.1.1
        subst this; exact List.mem_cons_self
      · rw [List.lookup_cons, beq_self_eq_true] at h
        have hkk : k' = k := Option.some.inj h
        subst hkk
        rcases hk with z | z
        · exact absurd z hk'
        · subst z; exact List.mem_cons_self
    · have e' : (x == n) = false := beq_eq_false_iff_ne.mpr e
      refine List.mem_cons_of_mem _ (relabel_back (env := env) hc' ?_ hk)
      dsimp only at h
      split at h
      · rw [List.lookup_cons, e'] at h; exact h
      · rw [List.lookup_cons, e'] at h; exact h
theorem relabel_free {env : Env} {x : Str} : ∀ {names : List (Str × NameKind)}, names.lookup x = some .free →
    (names.map fun (n, k) => if (k == NameKind.free && env.scope.kind == .function && env.kindOf n == some .cell) then (n, NameKind.cell) else (n, k)).lookup x = some .cell ∨
    (names.map fun (n, k) => if (k == NameKind.free && env.scope.kind == .function && env.kindOf n == some .cell) then (n, NameKind.cell) else (n, k)).lookup x = some .free
  | [], h => by cases h
  | (n, k') :: r, h => by
    rw [List.map_cons]
    rw [List.lookup_cons] at h
    by_cases e : x = n
    · subst e
      rw [beq_self_eq_true] at h
      have hk : k' = .free := Option.some.inj h
      subst hk
      dsimp only
      split
      · left; rw [List.lookup_cons, beq_self_eq_true]
      · right; rw [List.lookup_cons, beq_self_eq_true]
    · have e' : (x == n) = false := beq_eq_false_iff_ne.mpr e
      rw [e'] at h
      dsimp only
      split
      · rw [List.lookup_cons, e']; exact relabel_free h
      · rw [List.lookup_cons, e']; exact relabel_free h
structure CompFacts (X : Cx) (scope : Scope) (N' : List Str) (ix : List (Option Nat)) : Prop where
  nocell : ∀ y ∈ scope.names, y.2 ≠ .cell
  names : ∀ y ∈ scope.names, y.2 = .local → scope.names.lookup y.1 = some .local
  free : ∀ x, (x, NameKind.free) ∈ scope.names → X.env.kindOf x = some .cell ∨ X.env.kindOf x = some .free
  len : ix.length = N'.length
  link : ∀ {i j : Nat} {x : Str}, ix[i]? = some (some j) → N'[i]? = some x → X.N[j]? = some x ∧ scope.names.lookup x = some .free
theorem compFacts {X : Cx} {scope : Scope} {N' : List Str} {ix : List (Option Nat)} (h : compOk X.env.scope X.N scope N' ix = true) : CompFacts X scope N' ix := by
  simp only [compOk, Bool.and_eq_true, List.all_eq_true] at h
  obtain ⟨⟨⟨h1, h2⟩, h3⟩, h4⟩ := h
  refine ⟨fun y hy => by simpa using h1 y hy, fun y hy e => ?_, fun x hx => ?_, linkOk_len h4, fun e e' => linkOk_get h4 e e'⟩
  · have q := h2 y hy
    rw [e] at q
    simpa using q
  · have q := h3 _ hx
    have q' : X.env.scope.names.lookup x = some .cell ∨ X.env.scope.names.lookup x = some .free := by simpa using q
    exact q'
section
variable {X : Cx} {pins : List (Addr × Obj)} {σ : St} {H H' : Hp} {s s' : Shared} {scope : Scope} {N' : List Str} {ix : List (Option Nat)} {fp : List Addr}
theorem FpOk.stk {b : Addr} (I : Inv X pins σ H s) (f : FpOk X pins H b) : b ∉ frs X.stack := fun z => by
  rcases List.mem_cons.mp (I.stkSub b z) with q | q
  · exact f.2.1 q
  · exact f.2.2.1 q
theorem clTo_cell (I : Inv X pins σ H s) (F : CompFacts X scope N' ix) {x : Str} {c : Addr} (h : (clTo X.env.cells scope.names []).lookup x = some c) : X.env.cells.lookup x = some c ∧ (x, NameKind.free) ∈ scope.names := by
  rcases clTo_of _ _ h with q | ⟨q1, q2⟩
  · cases q
  · obtain ⟨c', e⟩ := I.ok.has x (F.free x q1)
    rw [e] at q2
    exact ⟨by rw [e, q2]; rfl, q1⟩
theorem ok_comp (I : Inv X pins σ H s) (F : CompFacts X scope N' ix) (hk : scope.kind = .function) (hf : ∀ b ∈ fp, FpOk X pins H b) (ho : ∀ b ∈ fp, ∃ o, s.heap.get? b = some o) : (cxComp X pins scope N' fp s H).Ok where
  mod := I.ok.mod
  kind := hk
  glob := I.ok.glob
  blt := I.ok.blt
  above := Nat.le_refl _
  inj := fun x y c e1 e2 => I.ok.inj x y c (clTo_cell I F e1).1 (clTo_cell I F e2).1
  has := fun x hx => by
    have q : (x, NameKind.free) ∈ scope.names := by
      rcases hx with z | z
      · exact relabel_back F.nocell z (.inl rfl)
      · exact relabel_back F.nocell z (.inr rfl)
    exact ⟨_, clTo_free _ _ (.inl q)⟩
  cab := fun x c e => by cases e
  hd := I.ok.hd
  frames := I.ok.frames
  stk := .inl rfl
  exf := fun b hb => by
    obtain ⟨o, e⟩ := ho b hb
    exact ⟨Nat.ne_of_lt (Heap.lt_size e), fun x c q => (hf b hb).2.2.2.2.1 x c (clTo_cell I F q).1⟩
  bs := fun b o e => I.bs b o e
  bsz := Nat.le_trans I.ok.bsz I.sz
  noex := fun b o e hb => by
    rcases (hf b hb).2.2.2.1 with z | z
    · exact I.ok.noex b o e z
    · exact absurd (Nat.lt_of_lt_of_le (Heap.lt_size (I.ok.bs b o e).1) z) (Nat.lt_irrefl _)
  exfs := fun b hb => FpOk.stk I (hf b hb)
  funs := I.stack
  frf := I.stkFree
theorem inv_comp {h' : Heap} {m : Str → Option Value} {ob : Obj} {t : Nat} (I : Inv X pins σ H s) (F : CompFacts X scope N' ix) (hk : scope.kind = .function) (hf : ∀ b ∈ fp, FpOk X pins H b) (ho : ∀ b ∈ fp, ∃ o, s.heap.get? b = some o)
    (hn : h'.Ns s.heap.objs.size m) (hs : Heap.SameBut s.heap.objs.size (s.heap.push ob) h') :
    Inv (cxComp X pins scope N' fp s H) [] (pick ix σ) H { s with heap := h', toks := t } := by
  have k : ∀ b u, s.heap.get? b = some u → h'.get? b = some u := fun b u e =>
    (hs.2 b (Nat.ne_of_lt (Heap.lt_size e))).trans (Heap.get?_push_of_some _ e)
  refine ⟨ok_comp I F hk hf ho, rfl, I.bare, Un.kept k, ⟨m, hn, fun i x v e1 e2 e3 => ?_⟩, fun x c e => ?_, I.fresh, fun x c e => ?_, fun p hp => ?_, I.hok.kept k, ?_⟩
  · obtain ⟨j, ej, ev⟩ := pick_get e2
    obtain ⟨l1, l2⟩ := F.link ej e1
    have fr : (x, NameKind.free) ∈ scope.names := mem_of_lookup l2
    obtain ⟨m0, hn0, hl⟩ := I.loc
    have vis : Vis X.env.scope x := .inr (F.free x fr)
    obtain ⟨u, r, l⟩ := hl j x v l1 ev vis
    refine ⟨u, r, .inr ⟨relabel_free l2, ?_⟩⟩
    rcases l with ⟨l, _⟩ | ⟨_, c, e, z⟩
    · rcases F.free x fr with q | q
      · rw [q] at l; cases l
      · rw [q] at l; cases l
    · refine ⟨c, ?_, z.keeps k⟩
      show (clTo X.env.cells scope.names []).lookup x = some c
      rw [clTo_free _ _ (.inl fr), e]; rfl
  · obtain ⟨v, z⟩ := I.cell x c (clTo_cell I F e).1
    exact ⟨v, z.keeps k⟩
  · exact I.freeC x c (clTo_cell I F e).1
  · have hp' : p ∈ X.pn ++ pins := by
      have z : p ∈ (X.pn ++ pins) ++ [] := hp
      rwa [List.append_nil] at z
    obtain ⟨e, n, ne, nf, d⟩ := I.pin p hp'
    refine ⟨k _ _ e, n, Nat.ne_of_lt (Heap.lt_size e), fun z => ?_, d⟩
    rcases List.mem_cons.mp (I.stkSub p.1 z) with q | q
    · exact ne q
    · exact nf q
  · show (pick ix σ).length = N'.length
    unfold pick; rw [List.length_map]; exact F.len
theorem HOk.sameBut {P : Program} {w : World} {h h' : Heap} {a : Addr} (ok : HOk P w H h) (hn : H a = none) (hs : Heap.SameBut a h h') : HOk P w H h' := fun b ob e => by
  refine (ok b ob e).stay (fun c w' hc q => (hs.2 c ?_).trans q) (fun _ q => q) fun _ _ q => q
  rintro rfl
  rcases hc with rfl | hc
  · rw [hn] at e; cases e
  · rw [hn] at hc; cases hc
theorem leave_comp {σ' : St} {ps : List (Addr × Obj)} {h' : Heap} (I : Inv X pins σ H s) (hf : ∀ b ∈ fp, FpOk X pins H b) (I' : Inv (cxComp X pins scope N' fp s H) ps σ' H' s') (hs : Heap.SameBut s.heap.objs.size s'.heap h') :
    Inv X pins σ H' { s' with heap := h' } := by
  have bk : ∀ {b o o'}, s.heap.get? b = some o → s'.heap.get? b = some o' → h'.get? b = some o' := fun {b o o'} e e' => (hs.2 b (Nat.ne_of_lt (Heap.lt_size e))).trans e'
  refine I.call' (s' := { s' with heap := h' }) (ch := fp) I'.os ⟨fun b o e n hb hx => ?_, fun b o e n hb hx => ?_, I'.base.free, fun b o e hx => ?_, I'.base.tups, I'.base.frzs, I'.base.tbls⟩ (I'.hok.sameBut I'.free hs) I'.bare fun b hb => ⟨(hf b hb).2.2.2.1, (hf b hb).2.1, (hf b hb).2.2.2.2.1, (hf b hb).2.2.2.2.2⟩
  · exact bk e (I'.base.keep b o e n hb hx)
  · obtain ⟨sl, q⟩ := I'.base.slot b o e n hb hx
    exact ⟨sl, bk e q⟩
  · obtain ⟨o', q⟩ := I'.base.there b o e hx
    exact ⟨o', bk e q⟩
end
/-- the tests of a comprehension -/
def PTs (X : Cx) (ifs : List Expr) (t : TT) : Prop :=
  ∀ (pins : List (Addr × Obj)) (s : Shared) (σ : St) (H : Hp) (Q : Bool → Hp → Prop), Inv X pins σ H s → t σ H Q →
    wpAny (model X.prog X.w) X.A (forIn ifs true fun c r => if r = true then do let ok ← isTrue c X.env (eval c X.env); pure (ForInStep.yield ok) else pure (ForInStep.yield r)) (TP X pins σ Q) X.xe s
def tTrue : TT := fun _ H Q => Q true H
theorem pts_nil {X : Cx} : PTs X [] tTrue := fun _ _ _ H _ I h => wpAny_tests_nil ⟨H, I, h⟩
theorem pts_one {X : Cx} {c : Expr} {t : TT} (h : PT X c t) : PTs X [c] t := fun pins s σ H Q I q => wpAny_tests_one (h pins s σ H Q I q)
/-- one turn and the end, by an invariant W: the turn, a measure, the items so far, the block's names, the heap -/
def CompRuns (J : It) (p : Addr) (g : TG) (tc : TT) (te : TE) (Q : VK) (σ0 : St) (H0 : Hp) : Prop :=
  ∃ W : Nat → Nat → List V → St → Hp → Prop, (∃ m, W 0 m [] σ0 H0) ∧ ∀ i m acc σ' H', W i m acc σ' H' → H' p = some (.lst acc) ∧
    ((J.stop i H' ∧ Q (.ref p) H') ∨ (J.go i H' ∧ acc.length < sizeLine ∧ ∃ N : List V → St → Hp → Prop, (∀ a' σ3 H3, N a' σ3 H3 → ∃ m', m' < m ∧ W (i + 1) m' a' σ3 H3) ∧
      ∀ x H2, J.yld i H' x H2 → g x σ' H2 fun σ3 H3 => tc σ3 H3 fun b H4 =>
        if b = true then te σ3 H4 fun v H5 => H5 p = some (.lst acc) ∧ N (acc ++ [v]) σ3 (upd H5 p (.lst (acc ++ [v]))) else N acc σ3 H4))
def tComp (ix : List (Option Nat)) (wi : TI) (g : TG) (tc : TT) (te : TE) : TE := fun σ H Q => wi σ H fun J H1 => ∀ p, H1 p = none → CompRuns J p g tc te Q (pick ix σ) (upd H1 p (.lst []))
section
variable {X : Cx} {elt tg iter : Expr} {ifs : List Expr} {scope : Scope} {pos : Pos} {N' : List Str} {ix : List (Option Nat)} {wi : TI} {g : TG} {tc : TT} {te : TE}
theorem comp_run {use : Option (Value → Sem Unit)} {R : Value → Shared → Prop} {pins : List (Addr × Obj)} {s : Shared} {σ : St} {H : Hp} {Q : VK} (hc : X.calm = true) (ok : compOk X.env.scope X.N scope N' ix = true) (hk : scope.kind = .function)
    (hi : PI X tg iter wi)
    (hg : ∀ pins fp s3 H3, PG (cxComp X pins scope N' fp s3 H3) tg g) (ht : ∀ pins fp s3 H3, PTs (cxComp X pins scope N' fp s3 H3) ifs tc) (he : ∀ pins fp s3 H3, PE (cxComp X pins scope N' fp s3 H3) elt te)
    (hs : ∀ x, foldedSetIterable iter X.env x = pure x) (I : Inv X pins σ H s) (h : tComp ix wi g tc te σ H Q)
    (fin : ∀ (p C : Addr) (H' : Hp) (s' : Shared), (∃ m, s'.heap.Ns C m) → FpOk X pins H' C → (∀ h', Heap.SameBut C s'.heap h' → Inv X pins σ H' { s' with heap := h' }) → Q (.ref p) H' → compPost (model X.prog X.w) X.A X.xe use R (.ref p) C (.ok .next) s') :
    wpAny (model X.prog X.w) X.A (comprehension (.ListComp elt [⟨tg, iter, ifs, 0⟩] scope pos) scope X.env (firstIterPos [⟨tg, iter, ifs, 0⟩] pos) (newList []) (firstAsync [⟨tg, iter, ifs, 0⟩]) (firstIter [⟨tg, iter, ifs, 0⟩] X.env) use) R X.xe s := by
  have F := compFacts ok
  refine wpAny_comprehension_free (cl := clTo X.env.cells scope.names []) rfl hs (closureFor_to fun y hy e => ?_) hk F.names ?_
  · obtain ⟨n, k⟩ := y
    have e' : k = .free := e
    subst e'
    exact I.ok.has n (F.free n hy)
  refine thn (hi pins s σ H _ I h) fun v s1 h1 => thn h1 fun itv s2 h2 => ?_
  obtain ⟨it, fp, tn, J, H2, e, I2, T, st2, f2, rd⟩ := h2
  subst e
  refine wpAny_newObj_type ?_
  have hp := I2.fresh
  obtain ⟨W, ⟨m0, w0⟩, turn⟩ := rd _ hp
  have I3 := I2.lnew (ys := []) (its := []) (t' := s2.toks) Paired.nil (Nat.zero_le _)
  have hf3 : ∀ b ∈ fp, FpOk X pins (upd H2 s2.heap.objs.size (.lst [])) b := fun b hb => by
    obtain ⟨o, e, _⟩ := T.obj _ _ st2 b hb
    exact ⟨by rw [upd_ne (Nat.ne_of_lt (Heap.lt_size e))]; exact (f2 b hb).1, (f2 b hb).2⟩
  have ho3 : ∀ b ∈ fp, ∃ o, (s2.heap.push { cls := .type "list", data := .seq ([] : List Value).toArray }).get? b = some o := fun b hb => by
    obtain ⟨o, e, _⟩ := T.obj _ _ st2 b hb
    exact ⟨o, Heap.get?_push_of_some _ e⟩
  have hpC : s2.heap.objs.size ≠ (s2.heap.push { cls := .type "list", data := .seq ([] : List Value).toArray }).objs.size := by
    rw [Heap.size_push]; exact Nat.ne_of_lt (Nat.lt_succ_self _)
  refine wpAny_newFunctionEnv F.nocell (by intro y hy; simp at hy) (fun h4 hn4 hs4 => ?_) hk
  have I4 := inv_comp (t := s2.toks + ([] : List (Str × Value)).length) I3 F hk hf3 ho3 hn4 hs4
  have k4 : ∀ b o, s2.heap.get? b = some o → h4.get? b = some o := fun b o e =>
    (hs4.2 b (Nat.ne_of_lt (Nat.lt_of_lt_of_le (Heap.lt_size e) (by rw [Heap.size_push]; exact Nat.le_succ _)))).trans (Heap.get?_push_of_some _ (Heap.get?_push_of_some _ e))
  have st4 : tn 0 h4 := T.keep _ _ _ st2 fun b _ o e => k4 b o e
  have fx : ∀ {H' : Hp} {ps : List (Addr × Obj)}, (∀ b ∈ fp, H' b = none) → (∀ b ∈ fp, ∀ p ∈ ps, p.1 ≠ b) → ∀ b ∈ fp, FpOk (cxComp X pins scope N' fp { s2 with heap := s2.heap.push { cls := .type "list", data := .seq ([] : List Value).toArray }, toks := s2.toks } (upd H2 s2.heap.objs.size (.lst []))) ps H' b := fun {H' ps} hn hps b hb => by
    obtain ⟨o, e⟩ := ho3 b hb
    refine ⟨hn b hb, Nat.ne_of_lt (Heap.lt_size e), FpOk.stk I3 (hf3 b hb), .inl hb, fun x c q => (hf3 b hb).2.2.2.2.1 x c (clTo_cell I3 F q).1, fun p hp => ?_⟩
    rcases List.mem_append.mp hp with z | z
    · exact (hf3 b hb).2.2.2.2.2 p z
    · exact hps b hb p z
  have loop : codeAny (model X.prog X.w) X.A (.compLoop (.ListComp elt [⟨tg, iter, ifs, 0⟩] scope pos) 0 (.ref it) (.ref s2.heap.objs.size) (compEnvC scope (clTo X.env.cells scope.names []) (s2.heap.push { cls := .type "list", data := .seq ([] : List Value).toArray }).objs.size X.env))
      (compPost (model X.prog X.w) X.A X.xe use R (.ref s2.heap.objs.size) (s2.heap.push { cls := .type "list", data := .seq ([] : List Value).toArray }).objs.size) { s2 with heap := h4, toks := s2.toks + ([] : List (Str × Value)).length } := by
    refine compLoop_any rfl (fun n s' => ∃ i acc σ' H', Inv (cxComp X pins scope N' fp { s2 with heap := s2.heap.push { cls := .type "list", data := .seq ([] : List Value).toArray }, toks := s2.toks } (upd H2 s2.heap.objs.size (.lst []))) [] σ' H' s' ∧ tn i s'.heap ∧ (∀ b ∈ fp, H' b = none) ∧ W i n acc σ' H')
      ?_ m0 ⟨0, [], _, _, I4, st4, fun b hb => (hf3 b hb).1, w0⟩
    rintro n s5 ⟨i, acc, σ5, H5, I5, st5, fr5, w5⟩
    obtain ⟨hacc, alt⟩ := turn i n acc σ5 H5 w5
    rcases alt with ⟨stop, q⟩ | ⟨go, hz, N, hN, step⟩
    · refine wpAny_mono (T.done (cxComp X pins scope N' fp { s2 with heap := s2.heap.push { cls := .type "list", data := .seq ([] : List Value).toArray }, toks := s2.toks } (upd H2 s2.heap.objs.size (.lst []))) rfl rfl rfl hc i [] s5 σ5 H5 (fun _ _ => False) I5 (fx (ps := []) fr5 (fun _ _ _ z => nomatch z)) st5 stop) (fun r s6 ⟨hr, I6⟩ => ?_) fun _ _ f => f.elim
      subst hr
      refine fin _ _ H5 s6 ?_ (I3.fpOk (Nat.le_refl _) I6.free) (fun h' hs' => leave_comp I3 hf3 I6 hs') q
      obtain ⟨m, hm, _⟩ := I6.loc
      exact ⟨m, hm⟩
    · refine wpAny_mono (T.item (cxComp X pins scope N' fp { s2 with heap := s2.heap.push { cls := .type "list", data := .seq ([] : List Value).toArray }, toks := s2.toks } (upd H2 s2.heap.objs.size (.lst []))) rfl rfl rfl hc i [] s5 σ5 H5 (fun _ _ => False) I5 (fx (ps := []) fr5 (fun _ _ _ z => nomatch z)) st5 go) (fun r s6 ⟨u, hr, h6⟩ => ?_) fun _ _ f => f.elim
      subst hr
      refine wpAny_mono h6 (fun _ s7 ⟨x, H7, I7, r7, y7, st7, fr7⟩ => ?_) fun _ _ f => f.elim
      have I7' := I7.pinned (fx (ps := []) fr7 (fun _ _ _ z => nomatch z)) (T.obj _ _ st7)
      refine wpAny_mono (hg _ _ _ _ _ s7 σ5 H7 x u _ I7' r7 (step x H7 y7)) (fun _ s8 ⟨σ8, H8, I8, q8⟩ => ?_) fun _ _ f => f.elim
      refine wpAny_mono (ht _ _ _ _ _ s8 σ8 H8 _ I8 q8) (fun b s9 ⟨H9, I9, q9⟩ => ?_) fun _ _ f => f.elim
      have keep : ∀ {σ' : St} {H' : Hp} {s' : Shared}, Inv (cxComp X pins scope N' fp { s2 with heap := s2.heap.push { cls := .type "list", data := .seq ([] : List Value).toArray }, toks := s2.toks } (upd H2 s2.heap.objs.size (.lst []))) ([] ++ pinsAt fp s7.heap) σ' H' s' →
          tn (i + 1) s'.heap ∧ ∀ b ∈ fp, H' b = none := fun {σ' H' s'} I' => by
        refine ⟨T.keep _ _ _ st7 fun b hb o e => (I'.pin (b, o) (List.mem_append_right _ (List.mem_append_right _ (mem_pinsAt hb e)))).1, fun b hb => ?_⟩
        obtain ⟨o, e, d⟩ := T.obj _ _ st7 b hb
        exact (I'.pin (b, o) (List.mem_append_right _ (List.mem_append_right _ (mem_pinsAt hb e)))).2.1
      cases b with
      | false =>
        rw [if_neg Bool.false_ne_true] at q9 ⊢
        obtain ⟨m', hm, w9⟩ := hN _ _ _ q9
        exact ⟨m', hm, i + 1, acc, σ8, H9, I9.unpinned, (keep I9).1, (keep I9).2, w9⟩
      | true =>
        rw [if_pos rfl] at q9 ⊢
        refine wpAny_mono (he _ _ _ _ _ s9 σ8 H9 _ I9 q9) (fun y s10 ⟨v10, H10, I10, r10, hl10, w10⟩ => ?_) fun _ _ f => f.elim
        refine wpAny_mono (mt_append (X := (cxComp X pins scope N' fp { s2 with heap := s2.heap.push { cls := .type "list", data := .seq ([] : List Value).toArray }, toks := s2.toks } (upd H2 s2.heap.objs.size (.lst [])))) _ s10 σ8 H10 (.ref s2.heap.objs.size) [v10] (.ref s2.heap.objs.size) [y] (fun _ H' => N (acc ++ [v10]) σ8 H') I10 rfl (.cons r10 .nil) ⟨_, acc, v10, rfl, rfl, hl10, hz, w10⟩) (fun _ s11 ⟨_, H11, I11, _, n11⟩ => ?_) fun _ _ f => f.elim
        obtain ⟨m', hm, w11⟩ := hN _ _ _ n11
        exact ⟨m', hm, i + 1, acc ++ [v10], σ8, H11, I11.unpinned, (keep I11).1, (keep I11).2, w11⟩
  exact codeAny_compStart_list loop (T.self X.A 0 _ _ _ st4 loop)
/-- [elt for tg in iter if ..] -/
theorem pe_comp (N' : List Str) (ix : List (Option Nat)) (hc : X.calm = true) (ok : compOk X.env.scope X.N scope N' ix = true) (hk : scope.kind = .function) (hi : PI X tg iter wi)
    (hg : ∀ pins fp s3 H3, PG (cxComp X pins scope N' fp s3 H3) tg g) (ht : ∀ pins fp s3 H3, PTs (cxComp X pins scope N' fp s3 H3) ifs tc) (he : ∀ pins fp s3 H3, PE (cxComp X pins scope N' fp s3 H3) elt te)
    (hs : ∀ x, foldedSetIterable iter X.env x = pure x := by intro _; rfl) : PE X (.ListComp elt [⟨tg, iter, ifs, 0⟩] scope pos) (tComp ix wi g tc te) := by
  intro pins s σ H Q I h
  rw [eval_ListComp]
  refine comp_run hc ok hk hi hg ht he hs I h fun p C H' s' hm fC inv q => ?_
  obtain ⟨m, hm⟩ := hm
  exact ⟨m, hm, fun h' hs' => ⟨.ref p, H', inv h' hs', rfl, q⟩⟩
/-- name = [..], where the store is made ahead of the block's end -/
theorem ps_setC {i : Nat} {x : Str} {pos' spos : Pos} (N' : List Str) (ix : List (Option Nat)) (hc : X.calm = true) (ok : compOk X.env.scope X.N scope N' ix = true) (hk : scope.kind = .function) (hN : X.N.Nodup) (hx1 : X.N[i]? = some x) (hx : X.env.scope.names.lookup x = some .local)
    (hi : PI X tg iter wi)
    (hg : ∀ pins fp s3 H3, PG (cxComp X pins scope N' fp s3 H3) tg g) (ht : ∀ pins fp s3 H3, PTs (cxComp X pins scope N' fp s3 H3) ifs tc) (he : ∀ pins fp s3 H3, PE (cxComp X pins scope N' fp s3 H3) elt te)
    (hw : swapsWith (.ListComp elt [⟨tg, iter, ifs, 0⟩] scope pos) (some (.Name x pos')) spos.line X.env = pure true := by rfl)
    (hs : ∀ x, foldedSetIterable iter X.env x = pure x := by intro _; rfl) : PS X (.Assign [.Name x pos'] (.ListComp elt [⟨tg, iter, ifs, 0⟩] scope pos) spos) (tAsg (tComp ix wi g tc te) (gName i)) := by
  intro pins s σ H D I h
  rw [exec_Assign_Name_used _ _ _ _ hw]
  refine wpAny_bind (wpAny_standAt (wpAny_bind ?_))
  show wpAny _ X.A (do let _ ← comprehension (.ListComp elt [⟨tg, iter, ifs, 0⟩] scope pos) scope X.env (firstIterPos [⟨tg, iter, ifs, 0⟩] pos) (newList []) (firstAsync [⟨tg, iter, ifs, 0⟩]) (firstIter [⟨tg, iter, ifs, 0⟩] X.env) (some (assign (.Name x pos') X.env))) _ _ s
  refine wpAny_bind (thn (comp_run (R := fun _ s' => ∃ σ' H', Inv X pins σ' H' s' ∧ D.nx σ' H') hc ok hk hi hg ht he hs I h fun p C H' s' hm fC inv q => ?_) fun _ s' ⟨σ', H', I', q⟩ => wpAny_pure (wpAny_pure ⟨σ', H', I', q⟩))
  have inv0 : Inv X pins σ H' s' := by
    have := inv s'.heap ⟨rfl, fun _ _ => rfl⟩
    exact this
  obtain ⟨m, hm⟩ := hm
  refine wpAny_assign_Name ?_
  refine store_ok2 (v := .ref p) inv0 hN hx1 (.inl hx) rfl (fun s'' I'' ⟨a, sb, ha⟩ => ?_) (.inr hx)
  have ne : C ≠ a := by
    rcases ha with z | z
    · rw [z]; exact fC.2.1
    · exact fun q => fC.2.2.2.2.1 x a z q.symm
  refine ⟨m, hm.sameBut sb ne, fun h' hs' => ⟨_, H', ?_, q⟩⟩
  exact I''.turned (t' := s''.toks) (it := C) (fun b o hb e => (hs'.2 b hb).trans e) fC.1 fC.2.1 fC.2.2.2.1 fC.2.2.2.2.1 fC.2.2.2.2.2
end
end L2

set_option Elab.async false
set_option linter.all false
set_option maxRecDepth 100000
namespace L2
open PySem PySem.Spec PyProof.Rows
/-! ### data -/
inductive Dt where
  | non | bl (b : Bool) | int (i : Int) | str (x : Str) | tup (ds : List Dt) | lst (ds : List Dt)
mutual
def Is (H : Hp) : V → Dt → Prop
  | v, .non => v = .non
  | v, .bl b => v = .bl b
  | v, .int i => v = .int i
  | v, .str x => v = .str x
  | v, .tup ds => ∃ a xs, v = .ref a ∧ H a = some (.tup xs) ∧ IsL H xs ds
  | v, .lst ds => ∃ a xs, v = .ref a ∧ H a = some (.lst xs) ∧ IsL H xs ds
def IsL (H : Hp) : List V → List Dt → Prop
  | [], [] => True
  | x :: xs, d :: ds => Is H x d ∧ IsL H xs ds
  | _, _ => False
end
mutual
def dep : Dt → Nat
  | .tup ds => depL ds + 1
  | .lst ds => depL ds + 1
  | _ => 0
def depL : List Dt → Nat
  | [] => 0
  | d :: ds => max (dep d) (depL ds)
end
mutual
def wid : Dt → Nat
  | .tup ds => max ds.length (widL ds)
  | .lst ds => max ds.length (widL ds)
  | _ => 0
def widL : List Dt → Nat
  | [] => 0
  | d :: ds => max (wid d) (widL ds)
end
theorem wid_get {ds : List Dt} {i : Nat} {d : Dt} (h : ds[i]? = some d) : wid d ≤ widL ds := by
  induction ds generalizing i with
  | nil => simp at h
  | cons e ds ih =>
    simp only [widL]
    cases i with
    | zero => simp at h; subst h; omega
    | succ i => have := ih (by simpa using h); omega
mutual
theorem Is.same {H H' : Hp} (h : ∀ b o, H b = some o → H' b = some o) : ∀ {d : Dt} {v : V}, Is H v d → Is H' v d
  | .non, _, k => by simp only [Is] at k ⊢; exact k
  | .bl _, _, k => by simp only [Is] at k ⊢; exact k
  | .int _, _, k => by simp only [Is] at k ⊢; exact k
  | .str _, _, k => by simp only [Is] at k ⊢; exact k
  | .tup ds, _, k => by
    simp only [Is] at k ⊢
    obtain ⟨a, xs, e, h1, h2⟩ := k
    exact ⟨a, xs, e, h _ _ h1, IsL.same h h2⟩
  | .lst ds, _, k => by
    simp only [Is] at k ⊢
    obtain ⟨a, xs, e, h1, h2⟩ := k
    exact ⟨a, xs, e, h _ _ h1, IsL.same h h2⟩
theorem IsL.same {H H' : Hp} (h : ∀ b o, H b = some o → H' b = some o) : ∀ {ds : List Dt} {xs : List V}, IsL H xs ds → IsL H' xs ds
  | [], [], _ => by simp only [IsL]
  | d :: ds, x :: xs, k => by
    simp only [IsL] at k ⊢
    exact ⟨Is.same h k.1, IsL.same h k.2⟩
  | [], _ :: _, k => by simp only [IsL] at k
  | _ :: _, [], k => by simp only [IsL] at k
end
theorem IsL.length {H : Hp} : ∀ {ds : List Dt} {xs : List V}, IsL H xs ds → xs.length = ds.length
  | [], [], _ => rfl
  | d :: ds, x :: xs, k => by
    simp only [IsL] at k
    simp only [List.length_cons, IsL.length k.2]
  | [], _ :: _, k => by simp only [IsL] at k
  | _ :: _, [], k => by simp only [IsL] at k
theorem IsL.get {H : Hp} : ∀ {ds : List Dt} {xs : List V} {i : Nat}, IsL H xs ds → i < ds.length → ∃ x d, xs[i]? = some x ∧ ds[i]? = some d ∧ Is H x d
  | [], _, _, _, h => by simp at h
  | d :: ds, x :: xs, 0, k, _ => by
    simp only [IsL] at k
    exact ⟨x, d, rfl, rfl, k.1⟩
  | d :: ds, x :: xs, i + 1, k, h => by
    simp only [IsL] at k
    obtain ⟨y, e, h1, h2, h3⟩ := IsL.get (i := i) k.2 (by simpa using h)
    exact ⟨y, e, by simpa using h1, by simpa using h2, h3⟩
  | _ :: _, [], _, k, _ => by simp only [IsL] at k
theorem dep_get {ds : List Dt} {i : Nat} {d : Dt} (h : ds[i]? = some d) : dep d ≤ depL ds := by
  induction ds generalizing i with
  | nil => simp at h
  | cons e ds ih =>
    simp only [depL]
    cases i with
    | zero => simp at h; subst h; omega
    | succ i => have := ih (by simpa using h); omega
theorem IsL.ints (H : Hp) : ∀ ns : List Int, IsL H (ns.map V.int) (ns.map Dt.int)
  | [] => by simp only [List.map_nil, IsL]
  | n :: ns => by simp only [List.map_cons, IsL, Is, true_and]; exact IsL.ints H ns
/-! as the library's data -/
mutual
def toP : Dt → PyData
  | .non => .none
  | .bl b => .bool b
  | .int i => .int i
  | .str x => .str x
  | .tup ds => .tuple (toPs ds)
  | .lst ds => .list (toPs ds)
def toPs : List Dt → List PyData
  | [] => []
  | d :: ds => toP d :: toPs ds
end
mutual
theorem Is.reads {P : Program} {w : World} {H : Hp} {h : Heap} (ok : HOk P w H h) : ∀ {d : Dt} {v : V} {u : Value}, Is H v d → RelV v u → ∃ as, Reads h u (toP d) as
  | .non, _, _, k, r => by simp only [Is] at k; subst k; cases r; exact ⟨_, Reads.none⟩
  | .bl b, _, _, k, r => by simp only [Is] at k; subst k; cases r; exact ⟨_, Reads.bool b⟩
  | .int i, _, _, k, r => by simp only [Is] at k; subst k; obtain ⟨t, rfl⟩ := r; exact ⟨_, Reads.int i t⟩
  | .str x, _, _, k, r => by simp only [Is] at k; subst k; obtain ⟨t, rfl⟩ := r; exact ⟨_, Reads.str x t⟩
  | .tup ds, _, _, k, r => by
    simp only [Is] at k
    obtain ⟨a, xs, rfl, h1, h2⟩ := k
    cases r
    obtain ⟨_, its, rv, o, ho, hc, n, hd⟩ := (show ObjOk P w H h a (.tup xs) from ok a _ h1)
    obtain ⟨as, q⟩ := IsL.reads ok h2 rv
    exact ⟨_, Reads.tuple ho hc hd (by simpa using q)⟩
  | .lst ds, _, _, k, r => by
    simp only [Is] at k
    obtain ⟨a, xs, rfl, h1, h2⟩ := k
    cases r
    obtain ⟨_, its, n, rv, e⟩ := (show ObjOk P w H h a (.lst xs) from ok a _ h1)
    obtain ⟨as, q⟩ := IsL.reads ok h2 rv
    exact ⟨_, Reads.list e rfl rfl (by simpa using q)⟩
theorem IsL.reads {P : Program} {w : World} {H : Hp} {h : Heap} (ok : HOk P w H h) : ∀ {ds : List Dt} {xs : List V} {us : List Value}, IsL H xs ds → Vals xs us → ∃ as, ReadsAll h us (toPs ds) as
  | [], [], _, _, .nil => ⟨_, ReadsAll.nil⟩
  | d :: ds, x :: xs, _, k, .cons r t => by
    simp only [IsL] at k
    obtain ⟨as, q⟩ := Is.reads ok k.1 r
    obtain ⟨bs, q2⟩ := IsL.reads ok k.2 t
    exact ⟨_, ReadsAll.cons q q2⟩
  | [], _ :: _, _, k, _ => by simp only [IsL] at k
  | _ :: _, [], _, k, _ => by simp only [IsL] at k
end
def okD (d : Dt) : Prop := SeqAt.shaped (toP d) = true
def eqD (d e : Dt) : Bool := PyData.eqv (toP d) (toP e)
theorem eqD_self {d : Dt} (h : okD d) : eqD d d = true := SeqAt.eqv_refl _ (SeqAt.canLay_of_shaped h)
end L2

set_option Elab.async false
set_option linter.all false
set_option maxRecDepth 100000
namespace L2
open PySem PySem.Spec PyProof.Rows

/-! ### weaker readings -/
section
variable {X : Cx}
theorem PE.imp {e : Expr} {t t' : TE} (h : PE X e t) (hi : ∀ σ H Q, t' σ H Q → t σ H Q) : PE X e t' := fun pins s σ H Q I q => h pins s σ H Q I (hi σ H Q q)
theorem PT.imp {e : Expr} {t t' : TT} (h : PT X e t) (hi : ∀ σ H Q, t' σ H Q → t σ H Q) : PT X e t' := fun pins s σ H Q I q => h pins s σ H Q I (hi σ H Q q)
theorem OpR.imp {f : Value → Value → Sem Value} {r r' : R2} (h : OpR X f r) (hi : ∀ x y H Q, r' x y H Q → r x y H Q) : OpR X f r' := fun pins s σ H x y v u Q I rx ry q => h pins s σ H x y v u Q I rx ry (hi x y H Q q)
theorem CallR.imp {f : Value} {r r' : List V → Hp → VK → Prop} (h : CallR X f r) (hi : ∀ xs H Q, r' xs H Q → r xs H Q) : CallR X f r' := fun pins s σ H xs us Q I rs q => h pins s σ H xs us Q I rs (hi xs H Q q)
theorem MtR.imp {id : String} {r r' : V → List V → Hp → VK → Prop} (h : MtR X id r) (hi : ∀ x xs H Q, r' x xs H Q → r x xs H Q) : MtR X id r' := fun pins s σ H x xs v us Q I rx rs q => h pins s σ H x xs v us Q I rx rs (hi x xs H Q q)
theorem PI.imp {tg iter : Expr} {t t' : TI} (h : PI X tg iter t) (hi : ∀ σ H R, t' σ H R → t σ H R) : PI X tg iter t' := fun pins s σ H R I q => h pins s σ H R I (hi σ H R q)
end
section
variable {X : Cx} {pins : List (Addr × Obj)} {σ : St} {H : Hp} {s : Shared} {Q : VK}
theorem endS {z : Str} {t : Tok} (I : Inv X pins σ H s) (q : Q (.str z) H) : EP X pins σ Q (.str z t) s := ⟨.str z, H, I, ⟨t, rfl⟩, q⟩
theorem endN {i : Int} {t : Tok} (I : Inv X pins σ H s) (q : Q (.int i) H) : EP X pins σ Q (.int i t) s := ⟨.int i, H, I, ⟨t, rfl⟩, q⟩
theorem endB {b : Bool} (I : Inv X pins σ H s) (q : Q (.bl b) H) : EP X pins σ Q (.bool b) s := ⟨.bl b, H, I, rfl, q⟩
theorem endR {a : Addr} (I : Inv X pins σ H s) (q : Q (.ref a) H) : EP X pins σ Q (.ref a) s := ⟨.ref a, H, I, rfl, q⟩
end
/-! ### what stands at an address, to be read -/
def lstR (H : Hp) (a : Addr) : Option (List V) := match H a with
  | some (.lst xs) => some xs
  | some (.frz _ (.lst xs)) => some xs
  | _ => none
def tupR (H : Hp) (a : Addr) : Option (List V) := match H a with
  | some (.tup xs) => some xs
  | _ => none
def seqR (H : Hp) (a : Addr) : Option (List V) := match lstR H a with
  | some xs => some xs
  | none => tupR H a
theorem lstR_of {H : Hp} {a : Addr} {xs : List V} (h : H a = some (.lst xs)) : lstR H a = some xs := by unfold lstR; rw [h]
theorem tupR_of {H : Hp} {a : Addr} {xs : List V} (h : H a = some (.tup xs)) : tupR H a = some xs := by unfold tupR; rw [h]
theorem seqR_lst {H : Hp} {a : Addr} {xs : List V} (h : H a = some (.lst xs)) : seqR H a = some xs := by unfold seqR; rw [lstR_of h]
theorem seqR_tup {H : Hp} {a : Addr} {xs : List V} (h : H a = some (.tup xs)) : seqR H a = some xs := by
  have e : lstR H a = none := by unfold lstR; rw [h]
  unfold seqR; rw [e]; exact tupR_of h
theorem lstR_sq {K : PySem.W.Frag} {H : Hp} {a : Addr} {xs : List V} (h : lstR H a = some xs) : SqL K H a xs := by
  unfold lstR at h
  split at h
  · rename_i e; cases h; exact .inl (.inl e)
  · rename_i e; cases h; exact .inl (.inr ⟨_, e⟩)
  · cases h
theorem tupR_sq {K : PySem.W.Frag} {H : Hp} {a : Addr} {xs : List V} (h : tupR H a = some xs) : SqT K H a xs := by
  unfold tupR at h
  split at h
  · rename_i e; cases h; exact .inl (.inl e)
  · cases h
theorem seqR_sq {K : PySem.W.Frag} {H : Hp} {a : Addr} {xs : List V} (h : seqR H a = some xs) : SqL K H a xs ∨ SqT K H a xs := by
  unfold seqR at h
  split at h
  · rename_i e; cases h; exact .inl (lstR_sq e)
  · exact .inr (tupR_sq h)
/-- a tuple of these items is told, a new one or one that stood -/
def GetT (H : Hp) (xs : List V) (Q : VK) : Prop := ∀ p H', H' p = some (.tup xs) → (∀ b o, H b = some o → H' b = some o) → Q (.ref p) H'
theorem GetT.new {H : Hp} {xs : List V} {Q : VK} (h : GetT H xs Q) {p : Addr} (hp : H p = none) : Q (.ref p) (upd H p (.tup xs)) :=
  h p _ upd_same fun b o e => by rw [upd_ne (ne_of_none e hp)]; exact e
theorem GetT.old {H : Hp} {xs : List V} {Q : VK} (h : GetT H xs Q) {p : Addr} (hp : H p = some (.tup xs)) : Q (.ref p) H := h p _ hp fun b o e => e
def GetL (H : Hp) (xs : List V) (Q : VK) : Prop := ∀ p, H p = none → Q (.ref p) (upd H p (.lst xs))
/-! ### operators -/
def fAdd : R2 := fun x y H Q => match x, y with
  | .int i, .int j => Q (.int (i + j)) H
  | .str i, .str j => i.length + j.length ≤ sizeLine ∧ Q (.str (i ++ j)) H
  | .ref a, .ref b => match H a, H b with
    | some (.lst xs), some (.lst ys) => xs.length + ys.length ≤ sizeLine ∧ GetL H (xs ++ ys) Q
    | some (.tup xs), some (.tup ys) => xs ≠ [] ∧ xs.length + ys.length ≤ sizeLine ∧ GetT H (xs ++ ys) Q
    | _, _ => False
  | _, _ => False
def fMul : R2 := fun x y H Q => match x, y with
  | .int i, .int j => CMul i j ∧ Q (.int (i * j)) H
  | .str z, .int n => z.length * n.toNat ≤ 1000000 ∧ -(2 ^ 62) < n ∧ n < 2 ^ 62 ∧ Q (.str (Txt.mul z n)) H
  | .ref a, .int k => match H a with
    | some (.lst xs) => -(2 ^ 63) ≤ k ∧ k < 2 ^ 63 ∧ xs.length * k.toNat ≤ sizeLine ∧ GetL H (List.replicate k.toNat xs).flatten Q
    | _ => False
  | _, _ => False
def fI (C : Int → Int → Prop) (g : Int → Int → V) : R2 := fun x y H Q => match x, y with
  | .int i, .int j => C i j ∧ Q (g i j) H
  | _, _ => False
def fI0 (g : Int → Int → V) : R2 := fun x y H Q => match x, y with
  | .int i, .int j => Q (g i j) H
  | _, _ => False
theorem fI0_rI0 {g : Int → Int → V} : ∀ x y H Q, fI0 g x y H Q → rI0 g x y H Q := fun x y H Q h => by
  unfold fI0 at h
  split at h
  · exact ⟨_, _, rfl, rfl, h⟩
  · exact h.elim
theorem fI_rI {C : Int → Int → Prop} {g : Int → Int → V} : ∀ x y H Q, fI C g x y H Q → rI C g x y H Q := fun x y H Q h => by
  unfold fI at h
  split at h
  · exact ⟨_, _, rfl, rfl, h.1, h.2⟩
  · exact h.elim
section
variable {X : Cx}
theorem o_add : OpR X (binaryOp .Add) fAdd := by
  intro pins s σ H x y v u Q I rx ry h
  unfold fAdd at h
  split at h
  · exact op_add pins s σ H _ _ v u Q I rx ry ⟨_, _, rfl, rfl, h⟩
  · exact op_add_str pins s σ H _ _ v u Q I rx ry ⟨_, _, rfl, rfl, h.1, h.2⟩
  · split at h
    · rename_i h1 h2
      exact op_cat pins s σ H _ _ v u Q I rx ry ⟨_, _, _, _, rfl, rfl, h1, h2, h.1, h.2⟩
    · rename_i xs ys h1 h2
      refine op_catT pins s σ H _ _ v u Q I rx ry ⟨_, _, _, _, rfl, rfl, SqT.of h1, SqT.of h2, h.1, h.2.1, fun e => ?_, fun _ p hp => h.2.2.new hp⟩
      subst e
      have := h.2.2
      rw [List.append_nil] at this
      exact this.old h1
    · exact h.elim
  · exact h.elim
theorem o_sub : OpR X (binaryOp .Sub) (fI0 fun i j => .int (i - j)) := op_sub.imp fI0_rI0
theorem o_fdiv : OpR X (binaryOp .FloorDiv) (fI CDiv fun i j => .int (i / j)) := op_fdiv.imp fI_rI
theorem o_mod : OpR X (binaryOp .Mod) (fI (fun _ j => 0 < j) fun i j => .int (i % j)) := op_mod.imp fI_rI
theorem o_pow : OpR X (binaryOp .Pow) (fI CPow fun i j => .int (i ^ j.toNat)) := op_pow.imp fI_rI
theorem mulOk_of {z : Str} {n : Int} (h : z.length * n.toNat ≤ 1000000) (h1 : -(2 ^ 62) < n) (h2 : n < 2 ^ 62) : MulOk z n := by
  have e1 : ((2 : Int) ^ 62) = 4611686018427387904 := by decide
  have e2 : ((2 : Int) ^ 63) = 9223372036854775808 := by decide
  rw [e1] at h1 h2
  refine ⟨?_, fun hn _ => ?_, fun hn _ => ?_⟩
  · rw [e2]; simp only [Bool.or_eq_false_iff, decide_eq_false_iff_not]; omega
  · have hp : 0 < n := by omega
    have hz : (z.length : Int) ≤ 1000000 := by
      have : z.length * 1 ≤ z.length * n.toNat := Nat.mul_le_mul_left _ (by omega)
      omega
    have e3 : ((2 : Int) ^ 63 - 1) = 9223372036854775807 := by decide
    rw [e3]
    intro hgt
    have h3 : (9223372036854775807 : Int) / n < z.length := hgt
    have h4 : (9223372036854775807 : Int) < z.length * n := by
      have := Int.lt_mul_of_ediv_lt hp h3
      exact this
    have h5 : (z.length : Int) * n ≤ 1000000 := by
      have e : ((z.length * n.toNat : Nat) : Int) = (z.length : Int) * n := by
        rw [Int.natCast_mul]; congr 1; omega
      omega
    omega
  · unfold Builtin.Str.tooLong sizeLine
    have e4 : (2 : Nat) ^ 24 = 16777216 := by decide
    exact decide_eq_false (by omega)
theorem o_mul : OpR X (binaryOp .Mult) fMul := by
  intro pins s σ H x y v u Q I rx ry h
  unfold fMul at h
  split at h
  · exact op_mul pins s σ H _ _ v u Q I rx ry ⟨_, _, rfl, rfl, h.1, h.2⟩
  · obtain ⟨h1, h2, h3, q⟩ := h
    obtain ⟨t, rfl⟩ := rx
    obtain ⟨t', rfl⟩ := ry
    exact SB.mul (mulOk_of h1 h2 h3) fun t' k => endS (I.tok _) q
  · split at h
    · rename_i h1
      exact op_rep pins s σ H _ _ v u Q I rx ry ⟨_, _, _, rfl, rfl, h1, h.1, h.2.1, h.2.2.1, h.2.2.2⟩
    · exact h.elim
  · exact h.elim
/-! comparisons -/
theorem o_lt : OpR X (compareOp .Lt) (fI0 fun i j => .bl (decide (i < j))) := op_lt.imp fI0_rI0
theorem o_le : OpR X (compareOp .LtE) (fI0 fun i j => .bl (decide (i ≤ j))) := op_le.imp fI0_rI0
theorem o_gt : OpR X (compareOp .Gt) (fI0 fun i j => .bl (decide (j < i))) := op_gt.imp fI0_rI0
theorem o_ge : OpR X (compareOp .GtE) (fI0 fun i j => .bl (decide (j ≤ i))) := op_ge.imp fI0_rI0

/-! equality of plain values; the deep one is a rule of its own -/
def fEq : R2 := fun x y H Q => (scal x y = true ∧ Q (.bl (decide (x = y))) H) ∨ ∃ d e, Is H x d ∧ Is H y e ∧ okD d ∧ okD e ∧ Q (.bl (eqD d e)) H
def fNe : R2 := fun x y H Q => (scal x y = true ∧ Q (.bl (!decide (x = y))) H) ∨ ∃ d e, Is H x d ∧ Is H y e ∧ okD d ∧ okD e ∧ Q (.bl (!eqD d e)) H
/-- is, beside None -/
def fIs : R2 := fun x y H Q => y = .non ∧ Q (.bl (decide (x = .non))) H
def fIsNot : R2 := fun x y H Q => y = .non ∧ Q (.bl (!decide (x = .non))) H
theorem o_eq (hu : X.A.units + 64 < cLine) : OpR X (compareOp .Eq) fEq := by
  intro pins s σ H x y v u Q I rx ry h
  rcases h with h | ⟨d, e, h1, h2, h3, h4, q⟩
  · exact op_eq pins s σ H x y v u Q I rx ry h
  · obtain ⟨as, r1⟩ := Is.reads I.hok h1 rx
    obtain ⟨bs, r2⟩ := Is.reads I.hok h2 ry
    exact eq_dataH r1 r2 h3 h4 hu (endB I q)
theorem o_ne (hu : X.A.units + 64 < cLine) : OpR X (compareOp .NotEq) fNe := by
  intro pins s σ H x y v u Q I rx ry h
  rcases h with h | ⟨d, e, h1, h2, h3, h4, q⟩
  · exact op_ne pins s σ H x y v u Q I rx ry h
  · obtain ⟨as, r1⟩ := Is.reads I.hok h1 rx
    obtain ⟨bs, r2⟩ := Is.reads I.hok h2 ry
    exact ne_dataH r1 r2 h3 h4 hu (endB I q)
theorem o_is : OpR X (compareOp .Is) fIs := op_isN
theorem o_isnot : OpR X (compareOp .IsNot) fIsNot := op_notN
/-- in: one text within another; a plain value among the plain items of a list or tuple -/
def fIn (neg : Bool) : R2 := fun x y H Q => match x, y with
  | .str i, .str j => Q (.bl (xor neg (Txt.contains j i))) H
  | x, .ref p => match seqR H p with
    | some xs => flatV x = true ∧ xs.all flatV = true ∧ Q (.bl (if neg then !inV x xs else inV x xs)) H
    | none => False
  | _, _ => False
theorem o_in : OpR X (compareOp .In) (fIn false) := by
  intro pins s σ H x y v u Q I rx ry h
  unfold fIn at h
  split at h
  · refine op_in_str pins s σ H _ _ v u Q I rx ry ⟨_, _, rfl, rfl, ?_⟩
    simpa [Txt.contains] using h
  · split at h
    · rename_i e
      exact op_in_seq pins s σ H _ _ v u Q I rx ry ⟨_, _, rfl, seqR_sq e, h.1, h.2.1, h.2.2⟩
    · exact h.elim
  · exact h.elim
theorem o_notin : OpR X (compareOp .NotIn) (fIn true) := by
  intro pins s σ H x y v u Q I rx ry h
  unfold fIn at h
  split at h
  · refine op_notin_str pins s σ H _ _ v u Q I rx ry ⟨_, _, rfl, rfl, ?_⟩
    simpa [Txt.contains] using h
  · split at h
    · rename_i e
      exact op_notIn_seq pins s σ H _ _ v u Q I rx ry ⟨_, _, rfl, seqR_sq e, h.1, h.2.1, h.2.2⟩
    · exact h.elim
  · exact h.elim
/-! ### unary minus -/
def fNeg : V → Hp → VK → Prop := fun x H Q => match x with
  | .int i => Q (.int (-i)) H
  | _ => False
theorem o_neg : UnR X (unaryOp .USub) fNeg := fun pins s σ H x v Q I rx h => by
  unfold fNeg at h
  split at h
  · exact un_neg pins s σ H _ v Q I rx ⟨_, rfl, h⟩
  · exact h.elim
/-! ### items -/
def fIx (K : PySem.W.Frag) : R2 := fun x y H Q => match x, y with
  | .ref p, .int i => ∃ xs v, (SqL K H p xs ∨ SqT K H p xs) ∧ atI xs i = some v ∧ Q v H
  | .str z, .int i => z.length ≤ sizeLine ∧ (match atI z.cps.toList i with | some c => Q (.str ⟨#[c]⟩) H | none => False)
  | _, _ => False
theorem ix_any {K : PySem.W.Frag} (hK : X.K = K := by rfl) : IxR X (fIx K) := by
  subst hK
  intro value slice pins s σ H x y v u Q I rx ry h hs
  unfold fIx at h
  split at h
  · obtain ⟨xs, w', e, e', h⟩ := h
    rcases e with q | q
    · exact ix_list value slice pins s σ H _ _ v u Q I rx ry ⟨_, _, _, _, rfl, rfl, q, e', h⟩ hs
    · exact ix_tup value slice pins s σ H _ _ v u Q I rx ry ⟨_, _, _, _, rfl, rfl, q, e', h⟩ hs
  · obtain ⟨hz, h⟩ := h
    split at h
    · rename_i c e
      exact ix_str value slice pins s σ H _ _ v u Q I rx ry ⟨_, _, _, rfl, rfl, hz, e, h⟩ hs
    · exact h.elim
  · exact h.elim
/-! ### slices -/
def fSl (K : PySem.W.Frag) : V → Option Int → Option Int → Hp → VK → Prop := fun x lo hi H Q => match x with
  | .str z => z.length ≤ sizeLine ∧ Q (.str (Txt.slice z lo hi)) H
  | .ref a => (∃ xs, SqL K H a xs ∧ GetL H (cutV xs lo hi) Q) ∨
    (∃ xs, SqT K H a xs ∧ ¬ (HT.sIx xs.length 0 lo = 0 ∧ HT.sIx xs.length xs.length hi = xs.length) ∧ GetT H (cutV xs lo hi) Q)
  | _ => False
theorem sl_str : SlR X (fun x lo hi H Q => ∃ z, x = .str z ∧ z.length ≤ sizeLine ∧ Q (.str (Txt.slice z lo hi)) H) := by
  intro pins s σ H x v vl vu lo hi sl Q I rx hs pl pu h
  obtain ⟨z, rfl, hz, q⟩ := h
  obtain ⟨t, rfl⟩ := rx
  refine ⟨"str", _, PySem.F.slot_str_getitem.lookup, typeIs_str _ _ _, ?_⟩
  have fin : ∀ (l u : Option (Int × Tok)), l.map (·.1) = lo → u.map (·.1) = hi → s.heap.IsSlice sl l u none → wpAny (model X.prog X.w) X.A (getItem (.str z t) (.ref sl)) (EP X pins σ Q) X.xe s := fun l u el eu hs' => by
    subst el eu
    refine wpAny_getItem_str_slice hs' rfl ?_
    have q' : ∀ t' k, EP X pins σ Q (.str (Txt.slice z (l.map (·.1)) (u.map (·.1))) t') { s with toks := k } := fun t' k => endS (I.tok _) q
    exact post_val_or_str ⟨Nat.le_trans (Txt.slice_le z _ _) hz, fun t' k => q' t' k⟩
  cases pl with
  | none =>
    cases pu with
    | none => exact fin none none rfl rfl hs
    | int j u => exact fin none (some (j, u)) rfl rfl hs
  | int i t' =>
    cases pu with
    | none => exact fin (some (i, t')) none rfl rfl hs
    | int j u => exact fin (some (i, t')) (some (j, u)) rfl rfl hs
theorem sl_any {K : PySem.W.Frag} (hK : X.K = K := by rfl) : SlR X (fSl K) := by
  subst hK
  intro pins s σ H x v vl vu lo hi sl Q I rx hs pl pu h
  unfold fSl at h
  split at h
  · exact sl_str pins s σ H _ v vl vu lo hi sl Q I rx hs pl pu ⟨_, rfl, h.1, h.2⟩
  · rcases h with ⟨xs, e, h⟩ | ⟨xs, e, h⟩
    · exact sl_list pins s σ H _ v vl vu lo hi sl Q I rx hs pl pu ⟨_, _, rfl, e, h⟩
    · exact sl_tup pins s σ H _ v vl vu lo hi sl Q I rx hs pl pu ⟨_, _, rfl, e, h.1, fun p hp => h.2.new hp⟩
  · exact h.elim
/-! ### len and others -/
def fLen (K : PySem.W.Frag) : List V → Hp → VK → Prop := fun xs H Q => match xs with
  | [.str z] => z.length ≤ sizeLine ∧ Q (.int z.length) H
  | [.ref p] => ∃ ys, (SqL K H p ys ∨ SqT K H p ys) ∧ Q (.int ys.length) H
  | _ => False
theorem c_len {K : PySem.W.Frag} (hK : X.K = K := by rfl) : CallR X (.builtin "len") (fLen K) := by
  subst hK
  intro pins s σ H xs us Q I r h
  unfold fLen at h
  split at h
  · exact call_len_str pins s σ H _ us Q I r ⟨_, rfl, h.1, h.2⟩
  · obtain ⟨ys, e, h⟩ := h
    exact call_len_seq pins s σ H _ us Q I r ⟨_, _, rfl, e, h⟩
  · exact h.elim
def f1I (g : Int → V) : List V → Hp → VK → Prop := fun xs H Q => match xs with
  | [.int i] => Q (g i) H
  | _ => False
def f2I (g : Int → Int → V) : List V → Hp → VK → Prop := fun xs H Q => match xs with
  | [.int i, .int j] => Q (g i j) H
  | _ => False
theorem c_abs : CallR X (.builtin "abs") (f1I fun i => .int (if i < 0 then -i else i)) := call_abs.imp fun xs H Q h => by
  unfold f1I at h
  split at h
  · exact ⟨_, rfl, h⟩
  · exact h.elim
theorem c_max (hc : X.calm = true) : CallR X (.builtin "max") (f2I fun i j => .int (if j > i then j else i)) := (call_max2 hc).imp fun xs H Q h => by
  unfold f2I at h
  split at h
  · exact ⟨_, _, rfl, h⟩
  · exact h.elim
theorem c_min (hc : X.calm = true) : CallR X (.builtin "min") (f2I fun i j => .int (if j < i then j else i)) := (call_min2 hc).imp fun xs H Q h => by
  unfold f2I at h
  split at h
  · exact ⟨_, _, rfl, h⟩
  · exact h.elim
def fInt : List V → Hp → VK → Prop := fun xs H Q => match xs with
  | [.int i] => Q (.int i) H
  | [.bl b] => Q (.int (if b then 1 else 0)) H
  | _ => False
theorem c_int : CallR X (.type "int") fInt := call_int1.imp fun xs H Q h => by
  unfold fInt at h
  split at h
  · exact .inl ⟨_, rfl, h⟩
  · exact .inr ⟨_, rfl, h⟩
  · exact h.elim
def fStr : List V → Hp → VK → Prop := fun xs H Q => match xs with
  | [.int i] => i.natAbs.log2 < 1920 ∧ Q (.str (toString i)) H
  | _ => False
theorem c_str : CallR X (.type "str") fStr := call_str_int.imp fun xs H Q h => by
  unfold fStr at h
  split at h
  · exact ⟨_, rfl, h.1, h.2⟩
  · exact h.elim
def fList : List V → Hp → VK → Prop := fun xs H Q => match xs with
  | [.ref p] => (match seqR H p with | some ys => GetL H ys Q | none => False)
  | _ => False
theorem c_list : CallR X (.type "list") fList := call_list_of.imp fun xs H Q h => by
  unfold fList at h
  split at h
  · split at h
    · rename_i e; exact ⟨_, _, rfl, seqR_sq e, h⟩
    · exact h.elim
  · exact h.elim
def fTuple : List V → Hp → VK → Prop := fun xs H Q => match xs with
  | [.ref p] => (match seqR H p with | some ys => GetT H ys Q | none => False)
  | _ => False
theorem tup_back {H : Hp} {p : Addr} {ys : List V} (h : tupR H p = some ys) : H p = some (.tup ys) := by
  unfold tupR at h
  split at h
  · rename_i e; cases h; exact e
  · cases h
theorem c_tuple : CallR X (.type "tuple") fTuple := call_tuple_of.imp fun xs H Q h => by
  unfold fTuple at h
  split at h
  · split at h
    · rename_i ys e
      refine ⟨_, ys, rfl, ?_⟩
      unfold seqR at e
      split at e
      · rename_i e'; cases e
        exact .inl ⟨lstR_sq e', fun l hl => h.new hl⟩
      · exact .inr ⟨tupR_sq e, h.old (tup_back e)⟩
    · exact h.elim
  · exact h.elim
/-! ### truth -/
def fTru (x : V) (H : Hp) (Q : Bool → Hp → Prop) : Prop := match x with
  | .non => Q false H
  | .bl b => Q b H
  | .int i => Q (i != 0) H
  | .str z => z.length ≤ sizeLine ∧ Q ((z.length : Int) != 0) H
  | .ref p => (match seqR H p with | some xs => Q (!xs.isEmpty) H | none => False)
  | _ => False
theorem pt_tru {a : Expr} {ta : TE} (ha : PE X a ta) (he : ∀ whole, isTrue a X.env whole = (do let v ← whole; standAt a.pos; holding [v] (truthy v))) :
    PT X a (fun σ H Q => ta σ H fun x H' => fTru x H' Q) := by
  intro pins s σ H Q I h
  show wpAny _ _ (isTrue a X.env (eval a X.env)) _ _ _
  rw [he]
  refine wpAny_bind (thn (ha pins s σ H _ I h) fun v s1 ⟨x, H1, I1, r1, q1⟩ => wpAny_bind (wpAny_standAt (wpAny_holding ?_)))
  refine tru_ok pins s1 σ H1 x v Q I1 r1 ?_
  have q1 : fTru x H1 Q := q1
  unfold fTru at q1
  split at q1
  · exact ⟨_, rfl, q1⟩
  · exact ⟨_, rfl, q1⟩
  · exact ⟨_, rfl, q1⟩
  · exact ⟨_, ⟨q1.1, rfl⟩, q1.2⟩
  · split at q1
    · rename_i xs e
      refine ⟨_, ?_, q1⟩
      rcases seqR_sq (K := X.K) e with z | z
      · exact .inl ⟨_, z, rfl⟩
      · exact .inr (.inl ⟨_, z, rfl⟩)
    · exact q1.elim
  · exact q1.elim
/-! ### methods of lists -/
def fAppend : V → List V → Hp → VK → Prop := fun x vs H Q => match x, vs with
  | .ref l, [y] => (match H l with | some (.lst xs) => xs.length < sizeLine ∧ Q .non (upd H l (.lst (xs ++ [y]))) | _ => False)
  | _, _ => False
theorem m_append1 : MtR X "list.append" fAppend := fun pins s σ H x xs v us Q I rx rs h => by
  unfold fAppend at h
  split at h
  · split at h
    · rename_i e
      exact mt_append pins s σ H _ _ v us Q I rx rs ⟨_, _, _, rfl, rfl, e, h.1, h.2⟩
    · exact h.elim
  · exact h.elim
def fReverse : V → List V → Hp → VK → Prop := fun x vs H Q => match x, vs with
  | .ref l, [] => (match H l with | some (.lst xs) => Q .non (upd H l (.lst xs.reverse)) | _ => False)
  | _, _ => False
theorem m_reverse : MtR X "list.reverse" fReverse := fun pins s σ H x xs v us Q I rx rs h => by
  unfold fReverse at h
  split at h
  · split at h
    · rename_i e
      exact mt_reverse pins s σ H _ _ v us Q I rx rs ⟨_, _, rfl, rfl, e, h⟩
    · exact h.elim
  · exact h.elim
/-! ### methods of texts -/
theorem strsAre_of : ∀ {ys : List Str} {us : List Value}, Vals (ys.map V.str) us → StrsAre us ys
  | [], _, .nil => .nil
  | y :: ys, _, .cons r t => by
    obtain ⟨k, rfl⟩ := r
    exact .cons y k (strsAre_of t)
/-- the texts of a list of texts -/
def strs? : List V → Option (List Str)
  | [] => some []
  | .str z :: r => (strs? r).map (z :: ·)
  | _ => none
theorem strs?_map : ∀ ys : List Str, strs? (ys.map V.str) = some ys
  | [] => rfl
  | y :: ys => by simp only [List.map_cons, strs?, strs?_map ys, Option.map_some]
theorem strs?_of : ∀ {xs : List V} {ys : List Str}, strs? xs = some ys → xs = ys.map V.str
  | [], _, h => by cases h; rfl
  | .str z :: r, ys, h => by
    simp only [strs?] at h
    cases e : strs? r with
    | none => rw [e] at h; cases h
    | some q => rw [e] at h; cases h; rw [strs?_of e]; rfl
  | .non :: _, _, h => by cases h
  | .bl _ :: _, _, h => by cases h
  | .int _ :: _, _, h => by cases h
  | .byt _ :: _, _, h => by cases h
  | .flt _ :: _, _, h => by cases h
  | .ref _ :: _, _, h => by cases h
  | .ty _ :: _, _, h => by cases h
def fJoin : V → List V → Hp → VK → Prop := fun x vs H Q => match x, vs with
  | .str z, [.ref p] => (match lstR H p with
    | some xs => (match strs? xs with
      | some ys => (ys.map (·.length)).sum + ys.length * z.length ≤ 16777216 ∧ Q (.str (Txt.join z ys)) H
      | none => False)
    | none => False)
  | _, _ => False
theorem m_join1 : MtR X "str.join" fJoin := fun pins s σ H x xs v us Q I rx rs h => by
  unfold fJoin at h
  split at h
  · rename_i z p
    split at h
    · rename_i ws e
      split at h
      · rename_i ys e2
        obtain ⟨t, rfl⟩ := rx
        obtain ⟨u, rfl, ru⟩ := vals1 rs
        cases ru
        obtain ⟨its, r', pl, hz⟩ := I.list (lstR_sq e)
        rw [strs?_of e2] at r'
        exact join_list pl.isList (strsAre_of (by simpa using r')) h.1 fun t' k => endS (I.tok _) h.2
      · exact h.elim
    · exact h.elim
  · exact h.elim
def fSS (g : Str → Str → V) : V → List V → Hp → VK → Prop := fun x vs H Q => match x, vs with
  | .str z, [.str y] => Q (g z y) H
  | _, _ => False
def fSSI (g : Str → Str → Int → V) : V → List V → Hp → VK → Prop := fun x vs H Q => match x, vs with
  | .str z, [.str y, .int i] => Q (g z y i) H
  | _, _ => False
theorem m_startswith1 : MtR X "str.startswith" (fSS fun z y => .bl (Txt.startswith z y)) := fun pins s σ H x xs v us Q I rx rs h => by
  unfold fSS at h
  split at h
  · obtain ⟨t, rfl⟩ := rx
    obtain ⟨u, rfl, t', rfl⟩ := vals1 rs
    exact SC.startswith (endB I h)
  · exact h.elim
theorem m_endswith1 : MtR X "str.endswith" (fSS fun z y => .bl (Txt.endswith z y)) := fun pins s σ H x xs v us Q I rx rs h => by
  unfold fSS at h
  split at h
  · obtain ⟨t, rfl⟩ := rx
    obtain ⟨u, rfl, t', rfl⟩ := vals1 rs
    exact SC.endswith (endB I h)
  · exact h.elim
theorem m_find1 : MtR X "str.find" (fSS fun z y => .int (Txt.find z y)) := fun pins s σ H x xs v us Q I rx rs h => by
  unfold fSS at h
  split at h
  · obtain ⟨t, rfl⟩ := rx
    obtain ⟨u, rfl, t', rfl⟩ := vals1 rs
    exact SC.find (endN (I.tok _) h)
  · exact h.elim
theorem m_find2 : MtR X "str.find" (fSSI fun z y i => .int (Txt.find3 z y i)) := fun pins s σ H x xs v us Q I rx rs h => by
  unfold fSSI at h
  split at h
  · obtain ⟨t, rfl⟩ := rx
    obtain ⟨u, w', rfl, ⟨t', rfl⟩, ⟨t'', rfl⟩⟩ := vals2 rs
    exact SC.find3 (endN (I.tok _) h)
  · exact h.elim
theorem m_startswith2 : MtR X "str.startswith" (fSSI fun z y i => .bl (Txt.startswith3 z y i)) := fun pins s σ H x xs v us Q I rx rs h => by
  unfold fSSI at h
  split at h
  · obtain ⟨t, rfl⟩ := rx
    obtain ⟨u, w', rfl, ⟨t', rfl⟩, ⟨t'', rfl⟩⟩ := vals2 rs
    exact SC.startswith3 (endB I h)
  · exact h.elim
end
end L2

set_option Elab.async false
set_option linter.all false
set_option maxRecDepth 100000
namespace L2
open PySem PySem.Spec PyProof.Rows

/-! ### isinstance, for values of Python's own kinds -/
def tyN (H : Hp) : V → Option String
  | .non => some "NoneType"
  | .bl _ => some "bool"
  | .int _ => some "int"
  | .str _ => some "str"
  | .ref a => match H a with
    | some (.lst _) => some "list"
    | some (.frz _ (.lst _)) => some "list"
    | some (.tup _) => some "tuple"
    | _ => none
  | _ => none
def subB (t T : String) : Bool := t == T || (t == "bool" && T == "int")
def tys? : List V → Option (List String)
  | [] => some []
  | .ty T :: r => (tys? r).map (T :: ·)
  | _ => none
def knownT (T : String) : Bool := ["bool", "int", "str", "list", "tuple"].contains T
theorem kitOne_of {K : PySem.W.Frag} {t T : String} (ht : t = "NoneType" ∨ t = "bool" ∨ t = "int" ∨ t = "str" ∨ t = "list" ∨ t = "tuple") (hT : T = "bool" ∨ T = "int" ∨ T = "str" ∨ T = "list" ∨ T = "tuple") :
    PySem.W.kitOne K (.type t) (.type T) = some (subB t T) := by
  rcases ht with rfl | rfl | rfl | rfl | rfl | rfl <;> rcases hT with rfl | rfl | rfl | rfl | rfl <;> kernel_rfl
def fIsi : List V → Hp → VK → Prop := fun xs H Q => match xs with
  | [x, .ty T] => (match tyN H x with
    | some t => knownT T = true ∧ Q (.bl (subB t T)) H
    | none => False)
  | [x, .ref p] => (match tyN H x, tupR H p with
    | some t, some ts => (match tys? ts with
      | some Ts => Ts.all knownT = true ∧ Q (.bl (Ts.any (subB t))) H
      | none => False)
    | _, _ => False)
  | _ => False
section
variable {X : Cx}
theorem tyN_kit {K : PySem.W.Frag} {pins : List (Addr × Obj)} {σ : St} {H : Hp} {s : Shared} {x : V} {u : Value} {t : String} (I : Inv X pins σ H s) (rx : RelV x u) (e : tyN H x = some t) :
    (t = "NoneType" ∨ t = "bool" ∨ t = "int" ∨ t = "str" ∨ t = "list" ∨ t = "tuple") ∧ u ≠ .builtin "__main__.__loader__#opaque" ∧ ∃ Hp', PySem.W.KitX K u (.type t) Hp' ∧ Hp' s.heap := by
  cases x with
  | non => cases (show u = Value.none from rx); cases e; exact ⟨by simp, (fun z => nomatch z), _, PySem.W.kitx_none, True.intro⟩
  | bl b => cases (show u = Value.bool b from rx); cases e; exact ⟨by simp, (fun z => nomatch z), _, PySem.W.kitx_bool, True.intro⟩
  | int i => obtain ⟨k, q⟩ := (show ∃ t, u = Value.int i t from rx); cases q; cases e; exact ⟨by simp, (fun z => nomatch z), _, PySem.W.kitx_int, True.intro⟩
  | str z => obtain ⟨k, q⟩ := (show ∃ t, u = Value.str z t from rx); cases q; cases e; exact ⟨by simp, (fun z => nomatch z), _, PySem.W.kitx_str, True.intro⟩
  | ref a =>
    cases (show u = Value.ref a from rx)
    unfold tyN at e
    dsimp only at e
    split at e
    · rename_i xs ea
      cases e
      obtain ⟨_, _, n, _, h1⟩ := (show ObjOk X.prog X.w H s.heap a (.lst xs) from I.hok a _ ea)
      exact ⟨by simp, (fun z => nomatch z), _, PySem.W.kitx_list, ⟨_, h1, rfl⟩⟩
    · rename_i ob xs ea
      cases e
      obtain ⟨_, _, _, n, _, h1⟩ := (show ObjOk X.prog X.w H s.heap a (.frz ob (.lst xs)) from I.hok a _ ea)
      exact ⟨by simp, (fun z => nomatch z), _, PySem.W.kitx_list, ⟨_, h1, rfl⟩⟩
    · rename_i xs ea
      cases e
      obtain ⟨_, _, _, p⟩ := (show ObjOk X.prog X.w H s.heap a (.tup xs) from I.hok a _ ea)
      obtain ⟨o, h1, h2, _⟩ := p
      exact ⟨by simp, (fun z => nomatch z), _, PySem.W.kitx_tuple, ⟨o, h1, h2⟩⟩
    · cases e
  | byt _ => cases e
  | flt _ => cases e
  | ty _ => cases e
theorem knownT_of {T : String} (h : knownT T = true) : T = "bool" ∨ T = "int" ∨ T = "str" ∨ T = "list" ∨ T = "tuple" := by
  simpa [knownT] using h
theorem tys_any {K : PySem.W.Frag} {t : String} (ht : t = "NoneType" ∨ t = "bool" ∨ t = "int" ∨ t = "str" ∨ t = "list" ∨ t = "tuple") : ∀ {ts : List V} {Ts : List String} {its : List Value}, tys? ts = some Ts → Vals ts its → Ts.all knownT = true →
    PySem.W.kitAny K (.type t) its = some (Ts.any (subB t))
  | [], _, _, e, .nil, _ => by cases e; rfl
  | .ty T :: r, Ts, _, e, .cons rv rt, hk => by
    simp only [tys?] at e
    cases er : tys? r with
    | none => rw [er] at e; cases e
    | some q =>
      rw [er] at e
      cases e
      simp only [List.all_cons, Bool.and_eq_true] at hk
      cases rv
      have h1 := kitOne_of (K := K) ht (knownT_of hk.1)
      have h2 := tys_any (K := K) ht er rt hk.2
      unfold PySem.W.kitAny
      rw [h1]
      cases hb : subB t T with
      | true => simp [hb]
      | false => simp only [List.any_cons, hb, Bool.false_or]; exact h2
  | .non :: _, _, _, e, _, _ => by cases e
  | .bl _ :: _, _, _, e, _, _ => by cases e
  | .int _ :: _, _, _, e, _, _ => by cases e
  | .str _ :: _, _, _, e, _, _ => by cases e
  | .byt _ :: _, _, _, e, _, _ => by cases e
  | .flt _ :: _, _, _, e, _, _ => by cases e
  | .ref _ :: _, _, _, e, _, _ => by cases e
theorem c_isinstance : CallR X (.builtin "isinstance") fIsi := by
  intro pins s σ H xs us Q I r h
  unfold fIsi at h
  split at h
  · rename_i x T
    split at h
    · rename_i t et
      obtain ⟨u, c, rfl, rx, rc⟩ := vals2 r
      cases rc
      obtain ⟨ht, hu, H', hk, hH⟩ := tyN_kit (K := X.K) I rx et
      exact PySem.W.kia_one hk I.kIn hH (kitOne_of ht (knownT_of h.1)) hu fun tk => endB (I.tok _) h.2
    · exact h.elim
  · rename_i x p
    split at h
    · rename_i t ts et ep
      split at h
      · rename_i Ts eT
        obtain ⟨u, c, rfl, rx, rc⟩ := vals2 r
        cases rc
        obtain ⟨ht, hu, H', hk, hH⟩ := tyN_kit (K := X.K) I rx et
        obtain ⟨its, rv, pl, hz⟩ := I.tuple (tupR_sq ep)
        obtain ⟨⟨cls, dd, data, sl⟩, ho, hc, n, hd⟩ := id pl
        simp only at hc hd
        subst hc hd
        exact PySem.W.kia_tup hk I.kIn hH ho (tys_any ht eT rv h.1) hu fun tk => endB (I.tok _) h.2
      · exact h.elim
    · exact h.elim
  · exact h.elim
/-! ### all, any of a list of truths -/
def bls? : List V → Option (List Bool)
  | [] => some []
  | .bl b :: r => (bls? r).map (b :: ·)
  | _ => none
theorem bls?_map : ∀ bs : List Bool, bls? (bs.map V.bl) = some bs
  | [] => rfl
  | b :: bs => by simp only [List.map_cons, bls?, bls?_map bs, Option.map_some]
theorem bls?_of : ∀ {xs : List V} {bs : List Bool}, bls? xs = some bs → xs = bs.map V.bl
  | [], _, h => by cases h; rfl
  | .bl z :: r, ys, h => by
    simp only [bls?] at h
    cases e : bls? r with
    | none => rw [e] at h; cases h
    | some q => rw [e] at h; cases h; rw [bls?_of e]; rfl
  | .non :: _, _, h => by cases h
  | .str _ :: _, _, h => by cases h
  | .int _ :: _, _, h => by cases h
  | .byt _ :: _, _, h => by cases h
  | .flt _ :: _, _, h => by cases h
  | .ref _ :: _, _, h => by cases h
  | .ty _ :: _, _, h => by cases h
def fAll (f : List Bool → Bool) : List V → Hp → VK → Prop := fun xs H Q => match xs with
  | [.ref p] => (match lstR H p with
    | some ys => (match bls? ys with | some bs => Q (.bl (f bs)) H | none => False)
    | none => False)
  | _ => False
theorem range_all (bs : List Bool) : (List.range bs.length).all (fun i => bs.getD i true) = bs.all id := by
  rw [Bool.eq_iff_iff, List.all_eq_true, List.all_eq_true]
  constructor
  · intro h b hb
    obtain ⟨i, hi, rfl⟩ := List.mem_iff_getElem.mp hb
    have := h i (List.mem_range.mpr hi)
    simpa [List.getD_eq_getElem?_getD, hi] using this
  · intro h i hi
    have hi' := List.mem_range.mp hi
    have := h bs[i] (List.getElem_mem hi')
    simpa [List.getD_eq_getElem?_getD, hi'] using this
theorem c_all (hc : X.calm = true) : CallR X (.builtin "all") (fAll fun bs => bs.all id) := by
  intro pins s σ H xs us Q I r h
  unfold fAll at h
  split at h
  · rename_i p
    split at h
    · rename_i ys e
      split at h
      · rename_i bs eb
        obtain ⟨u, rfl, ru⟩ := vals1 r
        cases ru
        obtain ⟨its, rv, pl, hz⟩ := I.list (lstR_sq e)
        rw [bls?_of eb] at rv
        have hlen := rv.length
        rw [List.length_map] at hlen
        have hlt : p < s.heap.objs.size := by obtain ⟨o, ho, _⟩ := pl.isList; exact Heap.lt_size ho
        refine call_all_walk (wpAny_pyIter_list pl.isList ?_)
        refine ⟨s.heap.objs.size, _, _, _, _, _, (fun i => bs.getD i true), rfl, Walks.list (A := X.A.in1) (show X.A.in1.handled = none from I.ok.hd hc) s.heap.objs.size p (Nat.ne_of_lt hlt) its.toArray, ⟨⟨_, Heap.get?_push_size _ rfl, rfl, rfl⟩, ?_⟩, fun i v s' Q' E' hv hq => ?_, fun h' tk k => ?_⟩
        · obtain ⟨o, ho, q⟩ := pl.isList
          exact ⟨o, Heap.get?_push_of_some _ ho, q⟩
        · have hv' : its[i]? = some v := by simpa using hv
          have hil : i < its.length := (List.getElem?_eq_some_iff.mp hv').1
          obtain ⟨w', hw, rw'⟩ := rv.get (i := i) (x := V.bl (bs.getD i true)) (by rw [List.getElem?_map]; simp [List.getD_eq_getElem?_getD, show i < bs.length by omega])
          rw [hv'] at hw
          cases hw
          cases rw'
          exact wpAny_truthy_bool hq
        · have e2 : (List.range its.toArray.size).all (fun i => bs.getD i true) = bs.all id := by rw [List.size_toArray, ← hlen]; exact range_all bs
          rw [e2]
          have I1 : Inv X pins σ H { s with heap := s.heap.push { cls := .type "list_iterator", data := .fields #[.ref p, .int 0 0] }, toks := s.toks } := I.kept fun b u q => Heap.get?_push_of_some _ q
          have f1 := I.fpOk (H' := H) (b := s.heap.objs.size) (Nat.le_refl _) (I.hok.fresh (Nat.le_refl _))
          exact endB (I1.turned (t' := tk) (it := s.heap.objs.size) (fun b o hb q => k b o (by simpa using hb) q) f1.1 f1.2.1 f1.2.2.2.1 f1.2.2.2.2.1 f1.2.2.2.2.2) h
      · exact h.elim
    · exact h.elim
  · exact h.elim
end
/-! ### rows of known values -/
def Its (xs : List V) : It := ⟨fun i _ => i < xs.length, fun i H x H' => H' = H ∧ xs[i]? = some x, fun i _ => i = xs.length⟩
def chs (z : Str) : List V := z.cps.toList.map fun c => V.str ⟨#[c]⟩
theorem chs_length (z : Str) : (chs z).length = z.length := by unfold chs; rw [List.length_map]; rfl
theorem turn_walks {P : Program} {w : World} {K : PySem.W.Frag} {tg : Expr} {it : Addr} {n : Nat} {Pv : Nat → Value → Prop} {St : Nat → Heap → Prop} {xs : List V}
    (hW : ∀ A : Around, A.handled = none → Walks P w A it [it] [it] n Pv St) (hn : xs.length = n) (hx : ∀ i u, Pv i u → ∃ x, xs[i]? = some x ∧ RelV x u)
    (hobj : ∀ i h, St i h → ∃ o ty vs, h.get? it = some o ∧ o.cls = .type ty ∧ o.data = .fields vs ∧ ["enumerate", "zip", "dict_itemiterator", "dict_reverseitemiterator", "odict_iterator", "itertools.zip_longest", "itertools.pairwise"].contains ty = false)
    (hself : ∀ (A : Around) (i : Nat) (s : Shared) (Q : Value → Shared → Prop) (E : Value → Shared → Prop), St i s.heap → Q (.ref it) s → wpAny (model P w) A (pyIter (.ref it)) Q E s) :
    Turn P w K tg (Its xs) [it] it St where
  mem := by simp
  obj := fun i h st b hb => by
    have e : b = it := by simpa using hb
    subst e
    obtain ⟨o, ty, vs, ho, _, hd, _⟩ := hobj i h st
    exact ⟨o, ho, fun v z => by rw [hd] at z; cases z⟩
  keep := fun i h h' st k => (hW {} rfl).frame i h h' st k
  item := by
    intro X hP hw hK hc i pins s σ H E I hf st hg
    subst hP hw hK
    obtain ⟨f0, f1, f2, f3, f4, f5⟩ := hf it (by simp)
    have hlt : i < n := by rw [← hn]; exact hg
    refine (hW X.A (I.ok.hd hc)).item i s _ E hlt st fun v h' tk pv st' k => ?_
    obtain ⟨x, ex, rx⟩ := hx i v pv
    have I1 : Inv X pins σ H { s with heap := h', toks := tk } := I.turned (fun b o hb e => k b o (by simpa using hb) e) f0 f1 f3 f4 f5
    obtain ⟨o, ty, vs, ho, hcl, hd, hnn⟩ := hobj _ _ st'
    exact ⟨v, rfl, go_of (s := { s with heap := h', toks := tk }) ho hcl hd hnn ⟨x, H, I1, rx, ⟨rfl, ex⟩, st', fun b hb => (hf b hb).1⟩⟩
  done := by
    intro X hP hw hK hc i pins s σ H E I hf st hg
    subst hP hw hK
    obtain ⟨f0, f1, f2, f3, f4, f5⟩ := hf it (by simp)
    have e : i = n := by rw [← hn]; exact hg
    subst e
    exact (hW X.A (I.ok.hd hc)).done s _ E st fun h' tk k => ⟨rfl, I.turned (fun b o hb e => k b o (by simpa using hb) e) f0 f1 f3 f4 f5⟩
  self := hself
section
variable {X : Cx} {tg : Expr}
/-- a list, a tuple, a text, walked -/
def anyIt (K : PySem.W.Frag) (R : It → Hp → Prop) : V → Hp → Prop := fun x H1 => match x with
  | .str z => R (Its (chs z)) H1
  | .ref a => (∃ xs, SqL K H1 a xs ∧ R (Itl K a) H1) ∨ (∃ xs, SqT K H1 a xs ∧ R (Itt K a) H1)
  | _ => False
def iAny (K : PySem.W.Frag) (te : TE) : TI := fun σ H R => te σ H (anyIt K R)
theorem sign_rel {z : Str} {i : Nat} {u : Value} (h : SignAt z i u) : ∃ x, (chs z)[i]? = some x ∧ RelV x u := by
  obtain ⟨c, k, hc, rfl⟩ := h
  refine ⟨.str ⟨#[c]⟩, ?_, ⟨k, rfl⟩⟩
  unfold chs
  rw [List.getElem?_map, Array.getElem?_toList, hc]
  rfl
theorem pi_any {K : PySem.W.Frag} {l : Expr} {tl : TE} (hl : PE X l tl) (hK : X.K = K := by rfl) : PI X tg l (iAny K tl) := by
  subst hK
  intro pins s σ H R I h
  refine thn (hl pins s σ H _ I h) fun v s1 ⟨x, H1, I1, r1, q1⟩ => ?_
  have fresh1 : ∀ b ∈ [s1.heap.objs.size], FpOk X pins H1 b := fun b hb => by
    have e : b = s1.heap.objs.size := by simpa using hb
    subst e
    exact I1.fpOk (Nat.le_refl _) (I1.hok.fresh (Nat.le_refl _))
  have kept1 : ∀ ob : Obj, Inv X pins σ H1 { s1 with heap := s1.heap.push ob } := fun ob => I1.kept (t' := s1.toks) fun b o e => Heap.get?_push_of_some _ e
  unfold anyIt at q1
  split at q1
  · rename_i z
    obtain ⟨t, rfl⟩ := r1
    have hlen : (chs z).length = z.cps.size := by unfold chs; simp
    cases ha : z.cps.all (· < 128)
    · refine wpAny_pyIter_wide ha ⟨s1.heap.objs.size, [s1.heap.objs.size], _, _, H1, rfl, kept1 _, turn_walks (fun A hA => Walks.strWide hA s1.heap.objs.size z t) hlen (fun i u hu => sign_rel hu) ?_ (fun A i s Q E st q => wpAny_pyIter_striter_wide st q), ⟨_, Heap.get?_push_size _ rfl, rfl, rfl⟩, fresh1, q1⟩
      intro i h st
      obtain ⟨o, ho, hc, hd⟩ := st
      exact ⟨o, _, _, ho, hc, hd, by decide⟩
    · refine wpAny_pyIter_ascii ha ⟨s1.heap.objs.size, [s1.heap.objs.size], _, _, H1, rfl, kept1 _, turn_walks (fun A hA => Walks.strAscii hA s1.heap.objs.size z t) hlen (fun i u hu => sign_rel hu) ?_ (fun A i s Q E st q => wpAny_pyIter_striter_ascii st q), ⟨_, Heap.get?_push_size _ rfl, rfl, rfl⟩, fresh1, q1⟩
      intro i h st
      obtain ⟨o, ho, hc, hd⟩ := st
      exact ⟨o, _, _, ho, hc, hd, by decide⟩
  · rename_i a
    cases r1
    rcases q1 with ⟨xs, e, q1⟩ | ⟨xs, e, q1⟩
    · obtain ⟨its, rv, p, hz⟩ := I1.list e
      exact wpAny_pyIter_list p.isList ⟨s1.heap.objs.size, [s1.heap.objs.size], _, _, H1, rfl, kept1 _, turn_list a _, ⟨_, Heap.get?_push_size _ rfl, rfl, rfl⟩, fresh1, q1⟩
    · obtain ⟨its, rv, p, hz⟩ := I1.tuple e
      exact wpAny_pyIter_tuple (show s1.heap.IsTuple a its.toArray from p) ⟨s1.heap.objs.size, [s1.heap.objs.size], _, _, H1, rfl, kept1 _, turn_tuple a _, ⟨_, Heap.get?_push_size _ rfl, rfl, rfl⟩, fresh1, q1⟩
  · exact q1.elim
end
/-- over a row of known values -/
theorem for_its {xs : List V} {g : TG} {tb : TS} {D : Ends} {σ : St} {H : Hp} (Pv : Nat → St → Hp → Prop) (h0 : Pv 0 σ H)
    (hs : ∀ i x σ H, xs[i]? = some x → Pv i σ H → g x σ H fun σ2 H2 => tb { D with nx := Pv (i + 1), ct := Pv (i + 1), bk := D.nx } σ2 H2) (hd : ∀ σ H, Pv xs.length σ H → D.nx σ H) :
    ∃ W : Nat → Nat → St → Hp → Prop, (∃ m, W 0 m σ H) ∧ ∀ i m σ H, W i m σ H →
      ((Its xs).stop i H ∧ D.nx σ H) ∨ ((Its xs).go i H ∧ ∃ N : St → Hp → Prop, (∀ σ' H', N σ' H' → ∃ m', m' < m ∧ W (i + 1) m' σ' H') ∧ ∀ x H', (Its xs).yld i H x H' → g x σ H' fun σ2 H2 => tb { D with nx := N, ct := N, bk := D.nx } σ2 H2) := by
  refine ⟨fun i m σ H => m = xs.length - i ∧ i ≤ xs.length ∧ Pv i σ H, ⟨xs.length, by simp, Nat.zero_le _, h0⟩, fun i m σ' H' w => ?_⟩
  obtain ⟨rfl, hi, p⟩ := w
  by_cases hlt : i < xs.length
  · refine .inr ⟨hlt, Pv (i + 1), fun σ2 H2 p' => ⟨xs.length - (i + 1), by omega, rfl, hlt, p'⟩, fun x H2 y => ?_⟩
    obtain ⟨rfl, y⟩ := y
    exact hs i x σ' _ y p
  · have e : i = xs.length := by omega
    exact .inl ⟨e, hd σ' H' (e ▸ p)⟩
/-- a comprehension's turns, by an invariant over the turn and the items so far -/
theorem comp_of {J : It} {n : Nat} {val : Nat → V} {p : Addr} {g : TG} {tc : TT} {te : TE} {Q : VK} {σ0 : St} {H0 : Hp} (Pv : Nat → List V → St → Hp → Prop)
    (hgo : ∀ i acc σ H, i < n → Pv i acc σ H → J.go i H) (hst : ∀ acc σ H, Pv n acc σ H → J.stop n H) (hy : ∀ i acc σ H x H', i < n → Pv i acc σ H → J.yld i H x H' → H' = H ∧ x = val i)
    (h0 : Pv 0 [] σ0 H0) (hp : ∀ i acc σ H, Pv i acc σ H → H p = some (.lst acc) ∧ acc.length ≤ i) (hz : n ≤ sizeLine)
    (hs : ∀ i acc σ H, i < n → Pv i acc σ H → g (val i) σ H fun σ3 H3 => tc σ3 H3 fun b H4 =>
      if b = true then te σ3 H4 fun v H5 => H5 p = some (.lst acc) ∧ Pv (i + 1) (acc ++ [v]) σ3 (upd H5 p (.lst (acc ++ [v]))) else Pv (i + 1) acc σ3 H4)
    (hd : ∀ acc σ H, Pv n acc σ H → Q (.ref p) H) :
    CompRuns J p g tc te Q σ0 H0 := by
  refine ⟨fun i m acc σ H => m = n - i ∧ i ≤ n ∧ Pv i acc σ H, ⟨n, by simp, Nat.zero_le _, h0⟩, fun i m acc σ' H' w => ?_⟩
  obtain ⟨rfl, hi, q⟩ := w
  obtain ⟨q1, q2⟩ := hp i acc σ' H' q
  refine ⟨q1, ?_⟩
  by_cases hlt : i < n
  · refine .inr ⟨hgo i acc σ' H' hlt q, by omega, Pv (i + 1), fun a' σ3 H3 k => ⟨n - (i + 1), by omega, rfl, hlt, k⟩, fun x H2 y => ?_⟩
    obtain ⟨rfl, rfl⟩ := hy i acc σ' H' x H2 hlt q y
    exact hs i acc σ' _ hlt q
  · have e : i = n := by omega
    subst e
    exact .inl ⟨hst acc σ' H' q, hd acc σ' H' q⟩
/-- .. over a range -/
theorem comp_range {lo : Int} {n : Nat} {p : Addr} {g : TG} {tc : TT} {te : TE} {Q : VK} {σ0 : St} {H0 : Hp} (Pv : Nat → List V → St → Hp → Prop)
    (h0 : Pv 0 [] σ0 H0) (hp : ∀ i acc σ H, Pv i acc σ H → H p = some (.lst acc) ∧ acc.length ≤ i) (hz : n ≤ sizeLine)
    (hs : ∀ i acc σ H, i < n → Pv i acc σ H → g (.int (lo + i)) σ H fun σ3 H3 => tc σ3 H3 fun b H4 =>
      if b = true then te σ3 H4 fun v H5 => H5 p = some (.lst acc) ∧ Pv (i + 1) (acc ++ [v]) σ3 (upd H5 p (.lst (acc ++ [v]))) else Pv (i + 1) acc σ3 H4)
    (hd : ∀ acc σ H, Pv n acc σ H → Q (.ref p) H) : CompRuns (Itr lo n) p g tc te Q σ0 H0 :=
  comp_of (J := Itr lo n) (val := fun i => .int (lo + i)) Pv (fun _ _ _ _ h _ => h) (fun _ _ _ _ => Nat.le_refl n) (fun _ _ _ _ _ _ _ _ y => y) h0 hp hz hs hd
/-- .. over a row of known values -/
theorem comp_its {xs : List V} {p : Addr} {g : TG} {tc : TT} {te : TE} {Q : VK} {σ0 : St} {H0 : Hp} (Pv : Nat → List V → St → Hp → Prop)
    (h0 : Pv 0 [] σ0 H0) (hp : ∀ i acc σ H, Pv i acc σ H → H p = some (.lst acc) ∧ acc.length ≤ i) (hz : xs.length ≤ sizeLine)
    (hs : ∀ i acc σ H, i < xs.length → Pv i acc σ H → g (xs.getD i .non) σ H fun σ3 H3 => tc σ3 H3 fun b H4 =>
      if b = true then te σ3 H4 fun v H5 => H5 p = some (.lst acc) ∧ Pv (i + 1) (acc ++ [v]) σ3 (upd H5 p (.lst (acc ++ [v]))) else Pv (i + 1) acc σ3 H4)
    (hd : ∀ acc σ H, Pv xs.length acc σ H → Q (.ref p) H) : CompRuns (Its xs) p g tc te Q σ0 H0 :=
  comp_of (J := Its xs) (n := xs.length) (val := fun i => xs.getD i .non) Pv (fun _ _ _ _ h _ => h) (fun _ _ _ _ => rfl)
    (fun i _ _ _ x _ hi _ y => ⟨y.1, by have := y.2; rw [List.getD_eq_getElem?_getD, this]; rfl⟩) h0 hp hz hs hd
/-- .. over a list that stays as it is -/
theorem comp_list {K : PySem.W.Frag} {a : Addr} {xs : List V} {p : Addr} {g : TG} {tc : TT} {te : TE} {Q : VK} {σ0 : St} {H0 : Hp} (Pv : Nat → List V → St → Hp → Prop)
    (hl : ∀ i acc σ H, i ≤ xs.length → Pv i acc σ H → SqL K H a xs)
    (h0 : Pv 0 [] σ0 H0) (hp : ∀ i acc σ H, Pv i acc σ H → H p = some (.lst acc) ∧ acc.length ≤ i) (hz : xs.length ≤ sizeLine)
    (hs : ∀ i acc σ H, i < xs.length → Pv i acc σ H → g (xs.getD i .non) σ H fun σ3 H3 => tc σ3 H3 fun b H4 =>
      if b = true then te σ3 H4 fun v H5 => H5 p = some (.lst acc) ∧ Pv (i + 1) (acc ++ [v]) σ3 (upd H5 p (.lst (acc ++ [v]))) else Pv (i + 1) acc σ3 H4)
    (hd : ∀ acc σ H, Pv xs.length acc σ H → Q (.ref p) H) : CompRuns (Itl K a) p g tc te Q σ0 H0 :=
  comp_of (J := Itl K a) (n := xs.length) (val := fun i => xs.getD i .non) Pv
    (fun i acc σ H hi q => ⟨xs, xs[i], (hl i acc σ H (Nat.le_of_lt hi) q), by simp [hi]⟩) (fun acc σ H q => ⟨xs, (hl _ acc σ H (Nat.le_refl _) q), Nat.le_refl _⟩)
    (fun i acc σ H x _ hi q y => ⟨y.1, by have := y.2 xs (hl i acc σ H (Nat.le_of_lt hi) q); rw [List.getD_eq_getElem?_getD, this]; rfl⟩) h0 hp hz hs hd

/-! ### methods of Python's own values -/
section
variable {X : Cx} {o e : Expr} {es : List Expr} {to : TE} {t : TA} {name : Str} {apos cpos : Pos} {T id : String} {r : V → List V → Hp → VK → Prop}
theorem pe_bmK {K : PySem.W.Frag} (pa : PlainAttrs T) (slot : Slot T name id) (hty : typeOf (.builtin id) = pure (.type "method_descriptor")) (hm : MtR X id r) (ho : PE X o to) (ha : PA X (e :: es) t) (hK : X.K = K := by rfl)
    (hb : attributeBase o name X.env (eval o X.env) = eval o X.env := by rfl)
    (hf : ((backTo cpos (starEach (e :: es) X.env)).all (fun x => !x.1) && (backToKw cpos (keywordEach [] X.env)).all (fun x => x.1.isSome) && decide ((e :: es).length + ([] : List Keyword).length + (if ([] : List Keyword).isEmpty then 0 else 1) < 30)) = true := by rfl)
    (hl : (apos.endLine == cpos.line) = true := by rfl) (he : starEach (e :: es) X.env = (false, eval e X.env) :: starEach es X.env := by rfl) (hpl : (backTo cpos (starEach es X.env)).any (·.1) = false := by rfl) : PE X (.Call (.Attribute o name apos) (e :: es) [] cpos) (tBM K T r to t) := by
  subst hK
  exact pe_bm pa slot hty hm ho ha hb hf hl he hpl
theorem pe_bm0K {K : PySem.W.Frag} (pa : PlainAttrs T) (slot : Slot T name id) (hty : typeOf (.builtin id) = pure (.type "method_descriptor")) (hm : MtR X id r) (ho : PE X o to) (hK : X.K = K := by rfl)
    (hbase : attributeBase o name X.env (eval o X.env) = eval o X.env := by rfl) (hline : (apos.endLine == cpos.line) = true := by rfl) : PE X (.Call (.Attribute o name apos) [] [] cpos) (tBM0 K T r to) := by
  subst hK
  exact pe_bm0 pa slot hty hm ho hbase hline
end
/-! ### a store into a list -/
def fSet : V → V → V → Hp → (Hp → Prop) → Prop := fun o i v H Q => match o, i with
  | .ref p, .int k => (match H p with
    | some (.lst xs) => (match ixN xs.length k with | some j => Q (upd H p (.lst (xs.set j v))) | none => False)
    | _ => False)
  | _, _ => False
theorem set_l {X : Cx} : PSet X fSet := fun pins s σ H o i v ov iv u Q I ro ri rv h => by
  unfold fSet at h
  split at h
  · split at h
    · rename_i xs e
      split at h
      · rename_i j ej
        exact set_list pins s σ H _ _ v ov iv u Q I ro ri rv ⟨_, _, _, _, rfl, rfl, e, ej, h⟩
      · exact h.elim
    · exact h.elim
  · exact h.elim
/-! ### a def of the text, known by its promise -/
structure Dn (P : Program) (w : World) (K : PySem.W.Frag) (mg : Str → Option Value) (base : Heap) (x : Str) (k : Nat) (ps : List Str) (sp : Sp) : Prop where
  ex : ∃ (f : Addr) (fd : FuncData), mg x = some (.ref f) ∧ PySem.W.keepIn K (.ref f) = true ∧ Binds K fd ps [] ∧ FnOk P w K mg base CX0 k f fd ps sp
theorem pe_callD {X : Cx} {x : Str} {k : Nat} {ps : List Str} {sp : Sp} {e : Expr} {es : List Expr} {t : TA} {p pos : Pos} (D : Dn X.prog X.w X.K X.mg X.base x k ps sp) (hr : Room k X.A) (hg : Gl X x) (ha : PA X (e :: es) t)
    (hdb : (x == ("__debug__" : Str)) = false := by decide) (he : starEach (e :: es) X.env = (false, eval e X.env) :: starEach es X.env := by rfl) (hpl : (backTo pos (starEach es X.env)).any (·.1) = false := by rfl) :
    PE X (.Call (.Name x p) (e :: es) [] pos) (tCall sp [] E0 t) := by
  obtain ⟨f, fd, h1, h2, h3, h4⟩ := D.ex
  exact pe_call h4 hr hg h1 h2 h3 .nil pass0 ha hdb he hpl
end L2

set_option linter.all false
set_option maxRecDepth 100000
namespace L2
open PySem
open Sem (wp)
open AutoSeq1 (wpAny_loadPart')
section
variable {prog : Program} {w : World} {A : Around} {E : Value → Shared → Prop} {s : Shared}
theorem nextT_item {it t : Addr} {i : Nat} {items : Array Value} {x : Value} {Q : Value → Shared → Prop} (hit : s.heap.IsTupleIter it t i) (ht : s.heap.IsTuple t items) (hx : items[i]? = some x)
    (hQ : ∀ h', h'.IsTupleIter it t (i + 1) → Heap.SameBut it s.heap h' → Q x { s with heap := h' }) : wpAny (model prog w) A (Builtin.SmallTypes.nextOf (.ref it)) Q E s := by
  obtain ⟨ob, hob, hcl, hdt⟩ := id hit
  obtain ⟨ot, hot, _, nt, hdot⟩ := ht
  unfold Builtin.SmallTypes.nextOf
  refine wpAny_bind (wpAny_callSpecial?_slot (name := Str.ofString "__next__") hit.typeIs F.slot_tuple_iterator_next (wpAny_call_entry F.slot_tuple_iterator_next hit.typeIs F.entry_tuple_iterator_next ?_ (F.args_tuple_iterator_next_1 _)))
  show wpAny _ _ (field (.ref it) 0 >>= _) _ _ s
  refine wpAny_bind (wpAny_field hob hdt (x := .ref t) rfl ?_)
  have nn : ¬ ((Value.ref t == Value.none) = true) := Bool.false_ne_true
  show wpAny _ _ (if (Value.ref t == Value.none) = true then _ else _) _ _ s
  rw [if_neg nn]
  show wpAny _ _ (field (.ref it) 1 >>= _) _ _ s
  refine wpAny_bind (wpAny_field hob hdt (x := .int i 0) rfl ?_)
  show wpAny _ _ (seqItems? (.ref t) >>= _) _ _ s
  refine wpAny_bind (wpAny_seqItems hot hdot ?_)
  simp only [Int.toNat_natCast, hx]
  refine wpAny_bind (wpAny_setField hob hdt (by simp) (wpAny_pure ⟨x, rfl, wpAny_pure (hQ _ ?_ (Heap.SameBut.update ..))⟩))
  exact ⟨_, Heap.get?_update_self _ hob (Obj.isFreed_of_fields (Obj.data_mapFields hdt _)), (Obj.cls_mapFields ..).trans hcl, by rw [Obj.data_mapFields hdt]; simp [rawInt]⟩
theorem nextT_end {it t : Addr} {i : Nat} {items : Array Value} {Q : Value → Shared → Prop} (hh : A.handled = none) (hit : s.heap.IsTupleIter it t i) (ht : s.heap.IsTuple t items) (hx : items[i]? = none)
    (hE : ∀ h' e, Heap.ExtBut it s.heap h' → (∃ o, h'.get? e = some o ∧ o.cls = .type "StopIteration") → E (.ref e) { s with heap := h' }) : wpAny (model prog w) A (Builtin.SmallTypes.nextOf (.ref it)) Q E s := by
  obtain ⟨ob, hob, hcl, hdt⟩ := id hit
  obtain ⟨ot, hot, _, nt, hdot⟩ := ht
  unfold Builtin.SmallTypes.nextOf
  refine wpAny_bind (wpAny_callSpecial?_slot (name := Str.ofString "__next__") hit.typeIs F.slot_tuple_iterator_next (wpAny_call_entry F.slot_tuple_iterator_next hit.typeIs F.entry_tuple_iterator_next ?_ (F.args_tuple_iterator_next_1 _)))
  show wpAny _ _ (field (.ref it) 0 >>= _) _ _ s
  refine wpAny_bind (wpAny_field hob hdt (x := .ref t) rfl ?_)
  have nn : ¬ ((Value.ref t == Value.none) = true) := Bool.false_ne_true
  show wpAny _ _ (if (Value.ref t == Value.none) = true then _ else _) _ _ s
  rw [if_neg nn]
  show wpAny _ _ (field (.ref it) 1 >>= _) _ _ s
  refine wpAny_bind (wpAny_field hob hdt (x := .int i 0) rfl ?_)
  show wpAny _ _ (seqItems? (.ref t) >>= _) _ _ s
  refine wpAny_bind (wpAny_seqItems hot hdot ?_)
  simp only [Int.toNat_natCast, hx]
  refine wpAny_bind (wpAny_rule (wpAny_bind (wpAny_setField hob hdt (by simp) ?_)))
  show wpAny _ _ (newExc (.type "StopIteration") [] >>= _) _ _ _
  refine wpAny_bind ?_
  simp only [newExc, newTuple]
  refine wpAny_bind (wpAny_newObj_type ?_ (by size_fits))
  refine wpAny_bind (m := firstArgMember _ _) (wpAny_of_eq (a := Value.none) (by first | rfl | (simp only [firstArgMember]; rfl)) (wpAny_newObj_type ?_ (by size_fits)))
  simp only [raiseNew]
  refine wpAny_bind (wpAny_handled ?_)
  first | rw [show A.in1.handled = none from hh] | rw [hh]
  exact wpAny_bind (wpAny_pure (wpAny_throw (hE _ _ (((Heap.SameBut.update ..).extBut.push _).push _) ⟨_, Heap.get?_push_size _ rfl, rfl⟩)))
end
theorem drawsTuple {prog : Program} {w : World} {A : Around} (hh : A.handled = none) (it t : Addr) (hne : t ≠ it) (items : Array Value) :
    Draws prog w A it [it, t] items.size (fun i v => items[i]? = some v) (fun i h => h.IsTupleIter it t i ∧ h.IsTuple t items) where
  live := fun _ _ st => let ⟨o, ho, _⟩ := st.1; ⟨o, ho⟩
  frame := fun _ _ _ st hk => ⟨st.1.at fun o e => hk it (by simp) o e, let ⟨o, ho, r⟩ := st.2; ⟨o, hk t (by simp) o ho, r⟩⟩
  item := fun i s Q E hi st hQ => by
    refine nextT_item st.1 st.2 (x := items[i]) (by simp [hi]) fun h' hit' hs' => ?_
    exact hQ _ h' s.toks (by simp [hi]) ⟨hit', st.2.extBut hs'.extBut hne⟩ hs'
  done := fun s Q E st hE => nextT_end hh st.1 st.2 (by simp) hE
set_option maxHeartbeats 4000000 in
theorem enum_newT (l : Addr) (items : Array Value) (n : Nat) (dct : Option Addr) (sl : Array (Option Value)) (b : Int) (u : Tok) (hb : Builtin.SmallTypes.fitsIndex b = true) :
    Meets (Builtin.«enumerate.__new__» ⟨[.type "enumerate", .ref l], [(Str.ofString "start", .int b u)]⟩) (fun _ R s => s.heap.get? l = some { cls := .type "tuple", dict := dct, data := .seq items n, slots := sl } ∧
      R (.ok (.ret (.ref (s.heap.push { cls := .type "tuple_iterator", data := .fields #[.ref l, .int 0 0] }).objs.size)))
        { s with heap := (s.heap.push { cls := .type "tuple_iterator", data := .fields #[.ref l, .int 0 0] }).push { cls := .type "enumerate", data := .fields #[.none, .bool false, .ref s.heap.objs.size, rawInt b, .none, .none] } }) :=
  .of_wp fun prog w A R s h => by
    obtain ⟨hp, g, d, tk, os⟩ := s; obtain ⟨hl, h⟩ := h
    have hsub := sub_enumerate
    have hL : Heap.IsTuple (Shared.heap ⟨hp, g, d, tk, os⟩) l items := ⟨_, hl, rfl, n, rfl⟩
    have hb' : (!Builtin.SmallTypes.fitsIndex b) = false := by rw [hb]; rfl
    wp_walk using wpAny_loadPart' hl
    refine wpAny_stack_any fun st => wpAny_pure ?_
    split
    · rename_i c _ _ _ _ _
      cases (c == Value.type "enumerate")
      · wp_walk using wpAny_loadPart' hl, wpAny_pyIter_tuple hL
        exact ⟨_, rfl, h⟩
      · wp_walk using wpAny_loadPart' hl, wpAny_pyIter_tuple hL
        exact ⟨_, rfl, h⟩
    · wp_walk using wpAny_loadPart' hl, wpAny_pyIter_tuple hL
      exact ⟨_, rfl, h⟩
set_option maxHeartbeats 4000000 in
theorem enum_newL (l : Addr) (items : Array Value) (n : Nat) (dct : Option Addr) (sl : Array (Option Value)) (b : Int) (u : Tok) (hb : Builtin.SmallTypes.fitsIndex b = true) :
    Meets (Builtin.«enumerate.__new__» ⟨[.type "enumerate", .ref l], [(Str.ofString "start", .int b u)]⟩) (fun _ R s => s.heap.get? l = some { cls := .type "list", dict := dct, data := .seq items n, slots := sl } ∧
      R (.ok (.ret (.ref (s.heap.push { cls := .type "list_iterator", data := .fields #[.ref l, .int 0 0] }).objs.size)))
        { s with heap := (s.heap.push { cls := .type "list_iterator", data := .fields #[.ref l, .int 0 0] }).push { cls := .type "enumerate", data := .fields #[.none, .bool false, .ref s.heap.objs.size, rawInt b, .none, .none] } }) :=
  .of_wp fun prog w A R s h => by
    obtain ⟨hp, g, d, tk, os⟩ := s; obtain ⟨hl, h⟩ := h
    have hsub := sub_enumerate
    have hL : Heap.IsList (Shared.heap ⟨hp, g, d, tk, os⟩) l items := ⟨_, hl, rfl, n, rfl⟩
    have hb' : (!Builtin.SmallTypes.fitsIndex b) = false := by rw [hb]; rfl
    wp_walk using wpAny_loadPart' hl
    refine wpAny_stack_any fun st => wpAny_pure ?_
    split
    · rename_i c _ _ _ _ _
      cases (c == Value.type "enumerate")
      · wp_walk using wpAny_loadPart' hl, wpAny_pyIter_list hL
        exact ⟨_, rfl, h⟩
      · wp_walk using wpAny_loadPart' hl, wpAny_pyIter_list hL
        exact ⟨_, rfl, h⟩
    · wp_walk using wpAny_loadPart' hl, wpAny_pyIter_list hL
      exact ⟨_, rfl, h⟩
section
variable {prog : Program} {w : World} {A : Around} {E : Value → Shared → Prop} {s : Shared}
theorem initK {T newId : String} {self : Value} {rest : List Value} {kw : List (Str × Value)} (hl : typeLookup (.type T) "__init__" = pure (some (.builtin "object.__init__")))
    (hm : Bind.madeBy (.type T) = pure (some newId)) (hne : (some newId != some "object.__new__") = true) :
    Meets (Builtin.«object.__init__» ⟨self :: rest, kw⟩) (fun _ R s => s.TypeIs self T ∧ R (.ok (.ret .none)) s) := by
  refine Meets.of_wp fun prog w A R s hs => ?_
  obtain ⟨hT, hq⟩ := hs
  cases rest with
  | nil =>
    cases kw with
    | nil => exact wpAny_pure ⟨_, rfl, hq⟩
    | cons k kw =>
      repeat (any_goals (first | assumption | wp_step))
      exact ⟨_, rfl, hq⟩
  | cons a rest =>
    repeat (any_goals (first | assumption | wp_step))
    exact ⟨_, rfl, hq⟩
set_option maxHeartbeats 4000000 in
theorem callTypeK {T newId initId : String} {Bn Bi : Builtin} {args : List Value} {kw : List (Str × Value)} {S : Spec} {Q Q₁ : Value → Shared → Prop} (ft : TypeCalled T newId initId)
    (hct : checkTypeCall T ⟨args, kw⟩ = pure ()) (hcn : checkBuiltinCall newId ⟨.type T :: args, kw⟩ = pure ())
    (entryN : entryFor table newId = some Bn) (entryI : entryFor table initId = some Bi) (g : Meets (Bn ⟨.type T :: args, kw⟩) S) (h : S A.in1 (wants Q₁ E) s)
    (hnext : ∀ obj s₁, Q₁ obj s₁ → s₁.TypeIs obj T ∧ argsOk initId ⟨obj :: args, kw⟩ ∧ ∃ Si, Meets (Bi ⟨obj :: args, kw⟩) Si ∧ Si A.in1 (wants (fun r s₂ => r = .none ∧ Q obj s₂) E) s₁) :
    wpAny (model prog w) A (call (.type T) args kw) Q E s := by
  obtain ⟨c, tl, hmro⟩ := ft.mro
  have hmade := ft.made
  have hsub := ft.sub
  refine wpAny_call (codeAny_of_tree ?_)
  show wpAny _ _ (callAny (.type T) _) _ _ _
  refine wpAny_pure ⟨Code.quiet_builtin _ (by decide +kernel), codeAny_builtin F.entry_type_call ?_⟩
  rw [Around.under_plain (weight_type_call_type T args kw) (units_type_call_type T args kw)]
  have h1 := ft.notType
  have h2 := ft.canCreate
  repeat (any_goals (first | assumption | wp_step))
  refine codeAny_mono (codeAny_call_builtin ft.plain entryN (wpAny_of_eq hcn (g prog w A.in1 _ s h))) fun r s₁ hr => ?_
  cases r with
  | error e => exact hr
  | ok fl =>
    cases fl with
    | ret obj =>
      obtain ⟨hT, hok, Si, gi, hsi⟩ := hnext _ _ hr
      have hli := ft.init.lookup
      have hbi := ft.init.bind obj
      repeat (any_goals (first | assumption | wp_step))
      refine codeAny_mono (codeAny_call_builtin ft.init.plain entryI (ft.init.check _ _ _ _ _ _ _ _ hT hok (gi prog w A.in1 _ s₁ hsi))) fun r₂ s₂ hr₂ => ?_
      cases r₂ with
      | error e => exact hr₂
      | ok fl₂ =>
        cases fl₂ with
        | ret r =>
          obtain ⟨rfl, hq⟩ := hr₂
          repeat (any_goals (first | assumption | wp_step))
        | _ => exact hr₂.elim
    | _ => exact hr.elim
theorem chk1 (a b : Value) : checkTypeCall "enumerate" ⟨[a], [(Str.ofString "start", b)]⟩ = pure () := by kernel_rfl
theorem chk2 (a b : Value) : checkBuiltinCall "enumerate.__new__" ⟨[.type "enumerate", a], [(Str.ofString "start", b)]⟩ = pure () := by kernel_rfl
theorem argsK (obj a b : Value) : argsOk "object.__init__" ⟨[obj, a], [(Str.ofString "start", b)]⟩ := by
  unfold argsOk
  rw [signature?_of (id := "object.__init__") (n := ['_', '_', 't', 'i', 'n', 'i', '_', '_']) (o := ['t', 'c', 'e', 'j', 'b', 'o']) (by kernel_rfl) F.owner_object]
  kernel_rfl
theorem call_enumT {l : Addr} {items : Array Value} {b : Int} {u : Tok} {Q : Value → Shared → Prop} (hL : s.heap.IsTuple l items) (hb : Builtin.SmallTypes.fitsIndex b = true)
    (h : ∀ h', IsEnum h' (s.heap.objs.size + 1) s.heap.objs.size b .none → h'.IsTupleIter s.heap.objs.size l 0 → (∀ b o, s.heap.get? b = some o → h'.get? b = some o) → Q (.ref (s.heap.objs.size + 1)) { s with heap := h' }) :
    wpAny (model prog w) A (call (.type "enumerate") [.ref l] [(Str.ofString "start", .int b u)]) Q E s := by
  obtain ⟨⟨c, dct, dt, sl⟩, hl, hc, n, hd⟩ := hL
  simp only at hc hd
  subst hc hd
  refine callTypeK (Q₁ := fun obj s₁ => s₁.TypeIs obj "enumerate" ∧ Q obj s₁) F.called_enumerate (chk1 _ _) (chk2 _ _) F.entry_enumerate_new F.entry_object_init (enum_newT l items n dct sl b u hb) ⟨hl, ?_⟩
    fun obj s₁ hq => ⟨hq.1, argsK obj _ _, _, initK F.called_enumerate.init.lookup F.called_enumerate.made (by decide), hq.1, rfl, hq.2⟩
  have hz : (s.heap.push { cls := .type "tuple_iterator", data := .fields #[.ref l, .int 0 0] }).objs.size = s.heap.objs.size + 1 := Heap.size_push ..
  show _ ∧ _
  rw [hz]
  have he : IsEnum ((s.heap.push { cls := .type "tuple_iterator", data := .fields #[.ref l, .int 0 0] }).push { cls := .type "enumerate", data := .fields #[.none, .bool false, .ref s.heap.objs.size, rawInt b, .none, .none] }) (s.heap.objs.size + 1) s.heap.objs.size b .none := by
    have := Heap.get?_push_size (s.heap.push { cls := .type "tuple_iterator", data := .fields #[.ref l, .int 0 0] }) (o := { cls := .type "enumerate", data := .fields #[.none, .bool false, .ref s.heap.objs.size, rawInt b, .none, .none] }) rfl
    rw [hz] at this; exact this
  exact ⟨⟨_, he, rfl⟩, h _ he ⟨_, Heap.get?_push_of_some _ (Heap.get?_push_size _ rfl), rfl, rfl⟩ fun b o x => Heap.get?_push_of_some _ (Heap.get?_push_of_some _ x)⟩
theorem call_enumL {l : Addr} {items : Array Value} {b : Int} {u : Tok} {Q : Value → Shared → Prop} (hL : s.heap.IsList l items) (hb : Builtin.SmallTypes.fitsIndex b = true)
    (h : ∀ h', IsEnum h' (s.heap.objs.size + 1) s.heap.objs.size b .none → h'.IsListIter s.heap.objs.size l 0 → (∀ b o, s.heap.get? b = some o → h'.get? b = some o) → Q (.ref (s.heap.objs.size + 1)) { s with heap := h' }) :
    wpAny (model prog w) A (call (.type "enumerate") [.ref l] [(Str.ofString "start", .int b u)]) Q E s := by
  obtain ⟨⟨c, dct, dt, sl⟩, hl, hc, n, hd⟩ := hL
  simp only at hc hd
  subst hc hd
  refine callTypeK (Q₁ := fun obj s₁ => s₁.TypeIs obj "enumerate" ∧ Q obj s₁) F.called_enumerate (chk1 _ _) (chk2 _ _) F.entry_enumerate_new F.entry_object_init (enum_newL l items n dct sl b u hb) ⟨hl, ?_⟩
    fun obj s₁ hq => ⟨hq.1, argsK obj _ _, _, initK F.called_enumerate.init.lookup F.called_enumerate.made (by decide), hq.1, rfl, hq.2⟩
  have hz : (s.heap.push { cls := .type "list_iterator", data := .fields #[.ref l, .int 0 0] }).objs.size = s.heap.objs.size + 1 := Heap.size_push ..
  show _ ∧ _
  rw [hz]
  have he : IsEnum ((s.heap.push { cls := .type "list_iterator", data := .fields #[.ref l, .int 0 0] }).push { cls := .type "enumerate", data := .fields #[.none, .bool false, .ref s.heap.objs.size, rawInt b, .none, .none] }) (s.heap.objs.size + 1) s.heap.objs.size b .none := by
    have := Heap.get?_push_size (s.heap.push { cls := .type "list_iterator", data := .fields #[.ref l, .int 0 0] }) (o := { cls := .type "enumerate", data := .fields #[.none, .bool false, .ref s.heap.objs.size, rawInt b, .none, .none] }) rfl
    rw [hz] at this; exact this
  exact ⟨⟨_, he, rfl⟩, h _ he ⟨_, Heap.get?_push_of_some _ (Heap.get?_push_size _ rfl), rfl, rfl⟩ fun b o x => Heap.get?_push_of_some _ (Heap.get?_push_of_some _ x)⟩
end
end L2

set_option Elab.async false
set_option linter.all false
set_option maxRecDepth 100000
namespace L2
open PySem PySem.Spec PyProof.Rows
/-! ### enumerate -/
section
variable {X : Cx} {pins : List (Addr × Obj)} {σ : St} {H : Hp} {s : Shared} {h' : Heap}
theorem Inv.turnedL {t' : Nat} {ch : List Addr} (I : Inv X pins σ H s) (k : ∀ b u, b ∉ ch → s.heap.get? b = some u → h'.get? b = some u) (hf : ∀ b ∈ ch, FpOk X pins H b) : Inv X pins σ H { s with heap := h', toks := t' } := by
  have nch : ∀ b u, H b = some u → b ∉ ch := fun b u e z => by rw [(hf b z).1] at e; cases e
  refine I.step (g' := s.gens) (d' := s.drawn) (ch := ch) (fun b hb => ⟨(hf b hb).2.2.2.1, (hf b hb).2.1, (hf b hb).2.2.2.2.1, (hf b hb).2.2.2.2.2⟩)
    (fun b u _ _ hc e _ => k b u hc e) (fun b u _ _ hc e _ => ⟨u.slots, k b u hc e⟩) (fun _ _ _ _ n => n)
    (fun b u hc e => ⟨u, k b u hc e⟩) (fun _ _ e => e) (fun _ _ _ e => e) (fun b ps e => ⟨#[], by rw [e]; simp⟩) (fun m hm => ?_) (fun b u e => ?_) I.bare
  · obtain ⟨ob, es, ep, ho, r⟩ := hm
    exact ⟨ob, es, ep, k _ ob (fun z => (hf _ z).2.1 rfl) ho, r⟩
  · refine (I.hok b u e).stay (fun c v hc q => k c v ?_ q) (fun _ q => q) fun _ _ q => q
    rcases hc with z | z
    · rw [z]; exact nch b u e
    · exact nch c _ z
theorem Inv.turnedNew {t' : Nat} {ch : List Addr} {T : Addr} {o : HO} (I : Inv X pins σ H s) (hT : s.heap.objs.size ≤ T)
    (k : ∀ b u, b ∉ ch → s.heap.get? b = some u → h'.get? b = some u) (hf : ∀ b ∈ ch, FpOk X pins H b) (new : ObjOk X.prog X.w (upd H T o) h' T o) :
    Inv X pins σ (upd H T o) { s with heap := h', toks := t' } := by
  have hn : H T = none := I.hok.fresh hT
  have nch : ∀ b u, H b = some u → b ∉ ch := fun b u e z => by rw [(hf b z).1] at e; cases e
  refine I.step (g' := s.gens) (d' := s.drawn) (ch := ch) (fun b hb => ⟨(hf b hb).2.2.2.1, (hf b hb).2.1, (hf b hb).2.2.2.2.1, (hf b hb).2.2.2.2.2⟩)
    (fun b u _ _ hc e _ => k b u hc e) (fun b u _ _ hc e _ => ⟨u.slots, k b u hc e⟩) (fun b u _ e n => by rw [upd_ne (Nat.ne_of_lt (Nat.lt_of_lt_of_le (Heap.lt_size e) hT))]; exact n)
    (fun b u hc e => ⟨u, k b u hc e⟩) (fun b xs e => by rw [upd_ne (ne_of_none e hn)]; exact e) (fun b u v e => by rw [upd_ne (ne_of_none e hn)]; exact e) (fun b ps e => ⟨#[], by rw [upd_ne (ne_of_none e hn), e]; simp⟩)
    (fun m hm => ?_) (fun b u e => ?_) I.bare
  · obtain ⟨ob, es, ep, ho, r⟩ := hm
    exact ⟨ob, es, ep, k _ ob (fun z => (hf _ z).2.1 rfl) ho, r⟩
  · by_cases hb : b = T
    · subst hb; rw [upd_same] at e; cases e; exact new
    · rw [upd_ne hb] at e
      refine (I.hok b u e).stay (fun c v hc q => k c v ?_ q) (fun c q => by rw [upd_ne (ne_of_none q hn)]; exact q) fun c xs q => by rw [upd_ne (ne_of_none q hn)]; exact q
      rcases hc with z | z
      · rw [z]; exact nch b u e
      · exact nch c _ z
end
theorem Draws.shift {P : Program} {w : World} {A : Around} {it : Addr} {fp : List Addr} {n : Nat} {Pv : Nat → Value → Prop} {St : Nat → Heap → Prop} (D : Draws P w A it fp n Pv St) (b : Nat) :
    Draws P w A it fp (b + n) (fun j x => b ≤ j ∧ Pv (j - b) x) (fun j h => b ≤ j ∧ St (j - b) h) where
  live := fun j h st => D.live _ _ st.2
  frame := fun j h h' st k => ⟨st.1, D.frame _ _ _ st.2 k⟩
  item := fun j s Q E hj st hQ => D.item (j - b) s Q E (by have := st.1; omega) st.2 fun x h' tk hP hS sb => hQ x h' tk ⟨st.1, hP⟩ ⟨by have := st.1; omega, by rw [show j + 1 - b = j - b + 1 by have := st.1; omega]; exact hS⟩ sb
  done := fun s Q E st hE => D.done s Q E (by have := st.2; rwa [Nat.add_sub_cancel_left] at this) hE
/-- numbered from b on -/
def Ien (b : Nat) (xs : List V) (ok : Hp → Prop) : It :=
  ⟨fun i H => ok H ∧ i < xs.length, fun i H x H' => ∃ T v, H T = none ∧ xs[i]? = some v ∧ x = .ref T ∧ H' = upd H T (.tup [.int ((b : Int) + (i : Int)), v]), fun i H => ok H ∧ i = xs.length⟩
/-- an iterator whose items are known -/
def DrawAt (P : Program) (w : World) (A : Around) (it : Addr) (xs : List V) (St0 : Nat → Heap → Prop) (H : Hp) (i : Nat) (h : Heap) : Prop :=
  ∃ (fp : List Addr) (Pv : Nat → Value → Prop) (St : Nat → Heap → Prop), Draws P w A it fp xs.length Pv St ∧ it ∈ fp ∧ (∀ b ∈ fp, b = it ∨ H b ≠ none) ∧ St i h ∧ (∀ j x, Pv j x → ∃ v, xs[j]? = some v ∧ RelV v x) ∧ ∀ j h', St j h' → St0 j h'
theorem turn_enum {P : Program} {w : World} {K : PySem.W.Frag} {elts : List Expr} {k : Nat} {pos : Pos} {e it : Addr} {xs : List V} {b : Nat} {ok : Hp → Prop} {St0 : Nat → Heap → Prop} (hei : e ≠ it)
    (hD : ∀ (X : Cx), X.prog = P → X.w = w → X.K = K → X.calm = true → ∀ (i : Nat) (pins : List (Addr × Obj)) (s : Shared) (σ : St) (H : Hp), Inv X pins σ H s → ok H → H it = none → St0 i s.heap → DrawAt P w X.A.in1 it xs St0 H i s.heap)
    (hobj : ∀ i h, St0 i h → ∃ o, h.get? it = some o ∧ ∀ v, o.data ≠ .cell v) (hkeep : ∀ i h h', St0 i h → (∀ o, h.get? it = some o → h'.get? it = some o) → St0 i h') :
    Turn P w K (.Tuple elts k pos) (Ien b xs ok) [e, it] e (fun i h => (∃ old, IsEnum h e it ((b + i : Nat) : Int) old) ∧ St0 i h) where
  mem := by simp
  obj := fun i h st c hc => by
    rcases List.mem_cons.mp hc with z | z
    · obtain ⟨⟨old, he⟩, _⟩ := st
      rw [z]
      exact ⟨_, he, fun v q => by
        have q' : Data.fields _ = Data.cell v := q
        cases q'⟩
    · have z' : c = it := by simpa using z
      rw [z']
      exact hobj i h st.2
  keep := fun i h h' st kk => by
    obtain ⟨⟨old, he⟩, hs⟩ := st
    exact ⟨⟨old, kk e (by simp) _ he⟩, hkeep i h h' hs fun o q => kk it (by simp) o q⟩
  item := by
    intro X hP hw hK hc i pins s σ H E I hf st hg
    subst hP hw hK
    obtain ⟨⟨old, he⟩, hs⟩ := st
    obtain ⟨hok, hlt⟩ := hg
    obtain ⟨fp, Pv, St, D, hif, hfp, hst, hrel, hback⟩ := hD X rfl rfl rfl hc i pins s σ H I hok (hf it (by simp)).1 hs
    have hef : e ∉ fp := fun z => by
      rcases hfp e z with q | q
      · exact hei q
      · exact q (hf e (by simp)).1
    have W := WalksT.enumerateD (Draws.shift D b) e hei hef hif
    refine W.item (b + i) s _ E (by omega) ⟨⟨old, he⟩, by omega, by rw [Nat.add_sub_cancel_left]; exact hst⟩ fun T vals h1 tk hPv hT hTup hm hk => ⟨.ref T, rfl, ?_⟩
    obtain ⟨t, x, ⟨_, hPx⟩, rfl⟩ := hPv
    rw [Nat.add_sub_cancel_left] at hPx
    obtain ⟨v, hv, rv⟩ := hrel _ _ hPx
    have apart := W.apart _ _ _ hm
    refine W.go elts k pos (b + i) T _ _ E hm fun h2 st2 hk2 => ?_
    have kk : ∀ c u, c ∉ [e, it] → s.heap.get? c = some u → h2.get? c = some u := fun c u hc q => hk2 c u hc (hk c u hc q)
    have tup2 : IsTup h2 T #[.int ((b + i : Nat) : Int) t, x] := by
      obtain ⟨o, ho, r⟩ := hTup
      exact ⟨o, hk2 T o apart ho, r⟩
    refine ⟨.ref T, upd H T (.tup [.int ((b : Int) + (i : Int)), v]), I.turnedNew (t' := tk) hT kk hf ?_, rfl, ⟨T, v, I.hok.fresh hT, hv, rfl, rfl⟩, ?_, ?_⟩
    · refine ⟨by show 2 ≤ sizeLine; decide, [.int ((b + i : Nat) : Int) t, x], .cons ⟨t, ?_⟩ (.cons rv .nil), tup2⟩
      rw [Int.natCast_add]
    · obtain ⟨⟨old2, he2⟩, _, hs2⟩ := st2
      refine ⟨⟨old2, he2⟩, hback _ _ ?_⟩
      rwa [show b + i + 1 - b = i + 1 by omega] at hs2
    · intro c hc
      have hlt : c < s.heap.objs.size := by
        rcases List.mem_cons.mp hc with z | z
        · rw [z]; exact Heap.lt_size he
        · have z' : c = it := by simpa using z
          rw [z']
          obtain ⟨o, ho, _⟩ := hobj i _ hs
          exact Heap.lt_size ho
      rw [upd_ne (Nat.ne_of_lt (Nat.lt_of_lt_of_le hlt hT))]
      exact (hf c hc).1
  done := by
    intro X hP hw hK hc i pins s σ H E I hf st hg
    subst hP hw hK
    obtain ⟨⟨old, he⟩, hs⟩ := st
    obtain ⟨hok, rfl⟩ := hg
    obtain ⟨fp, Pv, St, D, hif, hfp, hst, hrel, hback⟩ := hD X rfl rfl rfl hc _ pins s σ H I hok (hf it (by simp)).1 hs
    have hef : e ∉ fp := fun z => by
      rcases hfp e z with q | q
      · exact hei q
      · exact q (hf e (by simp)).1
    have W := WalksT.enumerateD (Draws.shift D b) e hei hef hif
    exact W.done s _ E ⟨⟨old, he⟩, by omega, by rw [Nat.add_sub_cancel_left]; exact hst⟩ fun h1 tk hk => ⟨rfl, I.turnedL hk hf⟩
  self := fun A i s Q E st q => by
    obtain ⟨⟨old, he⟩, _⟩ := st
    exact wpAny_pyIter_enum he q
section
variable {X : Cx}
theorem drawStr {P : Program} {w : World} {A : Around} (hh : A.handled = none) {it : Addr} {z : Str} {t : Tok} {H : Hp} {i : Nat} {h : Heap} (st : h.IsStrIter it (strIterType z) z t i) :
    DrawAt P w A it (chs z) (fun i h => h.IsStrIter it (strIterType z) z t i) H i h := by
  have hlen : (chs z).length = z.cps.size := by unfold chs; simp
  have rel : ∀ (j : Nat) (x : Value), (∃ c u, z.cps[j]? = some c ∧ x = Value.str ⟨#[c]⟩ u) → ∃ v, (chs z)[j]? = some v ∧ RelV v x := fun j x hx => by
    obtain ⟨c, u, hc, rfl⟩ := hx
    exact sign_rel ⟨c, u, hc, rfl⟩
  cases ha : z.cps.all (· < 128)
  · have e : strIterType z = "str_iterator" := by simp [strIterType, ha]
    rw [e] at st ⊢
    refine ⟨[it], _, _, ?_, by simp, fun b hb => .inl (by simpa using hb), st, rel, fun _ _ q => q⟩
    rw [hlen]
    exact Draws.strWide hh it z t
  · have e : strIterType z = "str_ascii_iterator" := by simp [strIterType, ha]
    rw [e] at st ⊢
    refine ⟨[it], _, _, ?_, by simp, fun b hb => .inl (by simpa using hb), st, rel, fun _ _ q => q⟩
    rw [hlen]
    exact Draws.strAscii hh it z t
/-- enumerate(text), enumerate(list) -/
def enIt (R : It → Hp → Prop) : V → Hp → Prop := fun x H1 => match x with
  | .str z => R (Ien 0 (chs z) fun _ => True) H1
  | _ => False
def iEnum (te : TE) : TI := fun σ H R => te σ H (enIt R)
theorem pi_enum {elts : List Expr} {k : Nat} {tpos : Pos} {a : Expr} {ta : TE} {p pos : Pos} (hg : Gl X "enumerate") (hm : X.mg "enumerate" = none) (ha : PE X a ta) (hs : starEach [a] X.env = [(false, eval a X.env)] := by rfl) :
    PI X (.Tuple elts k tpos) (.Call (.Name "enumerate" p) [a] [] pos) (iEnum ta) := by
  intro pins s σ H R I h
  refine Call_ (ld_blt I hg hm boot_enumerate (PyProof.Rows.callWith_type1 ?_ hs rfl))
  rw [hs]
  show wpAny _ _ (spliced ((false, eval a X.env) :: backTo pos (starEach [] X.env))) _ _ s
  refine Calls.spliced_cons (thn (ha pins s σ H _ I h) fun u s1 ⟨x, H1, I1, ru, q1⟩ => Calls.spliced_nil ?_)
  unfold enIt at q1
  split at q1
  · rename_i z
    obtain ⟨t, rfl⟩ := ru
    refine call_enumerate_str fun h1 he hit hsz hk => ?_
    refine wpAny_pyIter_enum he ?_
    have I2 : Inv X pins σ H1 { s1 with heap := h1 } := I1.kept (t' := s1.toks) hk
    refine ⟨s1.heap.objs.size + 1, [s1.heap.objs.size + 1, s1.heap.objs.size], _, _, H1, rfl, I2, turn_enum (b := 0) (ok := fun _ => True) (xs := chs z) (St0 := fun i h => h.IsStrIter s1.heap.objs.size (strIterType z) z t i) (Nat.succ_ne_self _) ?_ ?_ ?_, ⟨⟨.none, he⟩, hit⟩, ?_, q1⟩
    · intro X' h1 h2 h3 hc i pins s σ H I _ _ st
      exact h1 ▸ h2 ▸ drawStr (A := X'.A.in1) (show X'.A.in1.handled = none from I.ok.hd hc) st
    · intro i h st
      obtain ⟨o, ho, hc, hd⟩ := st
      exact ⟨o, ho, fun v q => by rw [hd] at q; cases q⟩
    · intro i h h' st kk
      obtain ⟨o, ho, r⟩ := st
      exact ⟨o, kk o ho, r⟩
    · intro b hb
      have : s1.heap.objs.size ≤ b := by
        rcases List.mem_cons.mp hb with z | z
        · rw [z]; exact Nat.le_succ _
        · have z' : b = s1.heap.objs.size := by simpa using z
          rw [z']; exact Nat.le_refl _
      exact I1.fpOk this (I1.hok.fresh this)
  · exact q1.elim
end
/-! enumerate(.., start=n) -/
def enItS (n : Nat) (R : It → Hp → Prop) : V → Hp → Prop := fun x H1 => match x with
  | .ref a => (∃ xs, H1 a = some (.lst xs) ∧ R (Ien n xs fun H => H a = some (.lst xs)) H1) ∨ (∃ xs, H1 a = some (.tup xs) ∧ R (Ien n xs fun H => H a = some (.tup xs)) H1)
  | _ => False
def iEnumS (te ts : TE) : TI := fun σ H R => te σ H fun x H1 => ts σ H1 fun y H2 => ∃ n : Nat, y = .int (n : Int) ∧ n < 1000000 ∧ enItS n R x H2
theorem drawList {X : Cx} {pins : List (Addr × Obj)} {σ : St} {H : Hp} {s : Shared} {it a : Addr} {xs : List V} {i : Nat} (hc : X.calm = true) (I : Inv X pins σ H s) (h : SqL X.K H a xs) (hn : H it = none) (ha : H a ≠ none) (st : s.heap.IsListIter it a i) :
    DrawAt X.prog X.w X.A.in1 it xs (fun i h => h.IsListIter it a i) H i s.heap := by
  obtain ⟨its, rv, pl, hz⟩ := I.list h
  have hl : its.toArray.size = xs.length := by rw [List.size_toArray]; exact rv.length.symm
  have hne : a ≠ it := fun z => ha (z ▸ hn)
  refine ⟨[it, a], _, _, hl ▸ Draws.list (A := X.A.in1) (show X.A.in1.handled = none from I.ok.hd hc) it a hne its.toArray, by simp, fun b hb => ?_, ⟨st, pl.isList⟩, fun j x hx => ?_, fun _ _ q => q.1⟩
  · rcases List.mem_cons.mp hb with z | z
    · exact .inl z
    · have z' : b = a := by simpa using z
      rw [z']; exact .inr ha
  · have hx' : its[j]? = some x := by simpa using hx
    have hj : j < xs.length := by rw [rv.length]; exact (List.getElem?_eq_some_iff.mp hx').1
    obtain ⟨u, hu, ru⟩ := rv.get (i := j) (x := xs[j]) (by simp [hj])
    rw [hx'] at hu
    cases hu
    exact ⟨xs[j], by simp [hj], ru⟩
theorem drawTup {X : Cx} {pins : List (Addr × Obj)} {σ : St} {H : Hp} {s : Shared} {it a : Addr} {xs : List V} {i : Nat} (hc : X.calm = true) (I : Inv X pins σ H s) (h : SqT X.K H a xs) (hn : H it = none) (ha : H a ≠ none) (st : s.heap.IsTupleIter it a i) :
    DrawAt X.prog X.w X.A.in1 it xs (fun i h => h.IsTupleIter it a i) H i s.heap := by
  obtain ⟨its, rv, pl, hz⟩ := I.tuple h
  have hl : its.toArray.size = xs.length := by rw [List.size_toArray]; exact rv.length.symm
  have hne : a ≠ it := fun z => ha (z ▸ hn)
  refine ⟨[it, a], _, _, hl ▸ drawsTuple (A := X.A.in1) (show X.A.in1.handled = none from I.ok.hd hc) it a hne its.toArray, by simp, fun b hb => ?_, ⟨st, pl⟩, fun j x hx => ?_, fun _ _ q => q.1⟩
  · rcases List.mem_cons.mp hb with z | z
    · exact .inl z
    · have z' : b = a := by simpa using z
      rw [z']; exact .inr ha
  · have hx' : its[j]? = some x := by simpa using hx
    have hj : j < xs.length := by rw [rv.length]; exact (List.getElem?_eq_some_iff.mp hx').1
    obtain ⟨u, hu, ru⟩ := rv.get (i := j) (x := xs[j]) (by simp [hj])
    rw [hx'] at hu
    cases hu
    exact ⟨xs[j], by simp [hj], ru⟩
section
variable {X : Cx}
theorem pi_enumS {elts : List Expr} {k : Nat} {tpos : Pos} {a b : Expr} {ta tb : TE} {p pos kpos : Pos} (hg : Gl X "enumerate") (hm : X.mg "enumerate" = none) (ha : PE X a ta) (hb : PE X b tb) (hs : starEach [a] X.env = [(false, eval a X.env)] := by rfl) :
    PI X (.Tuple elts k tpos) (.Call (.Name "enumerate" p) [a] [⟨some "start", b, kpos⟩] pos) (iEnumS ta tb) := by
  intro pins s σ H R I h
  refine wpAny_Call_Name_kw (ld_blt I hg hm boot_enumerate ?_)
  refine PySem.W.callWith_of (P := fun _ => True) (by rw [hs]; rfl) (fun _ _ => ⟨.machine, .inr (.inl rfl), PySem.W.Looks.of_pure rfl⟩) (PyProof.Rows.evalArgs_kw2 (by rfl) ?_ hs)
  rw [hs]
  show wpAny _ _ (spliced ((false, eval a X.env) :: backTo pos (starEach [] X.env))) _ _ s
  refine Calls.spliced_cons (thn (ha pins s σ H _ I h) fun u s1 ⟨x, H1, I1, ru, q1⟩ => Calls.spliced_nil ?_)
  show wpAny _ _ (evalAll ((do let v ← eval b X.env; standAt pos; pure v) :: [])) _ _ s1
  refine wpAny_evalAll_cons (wpAny_bind (thn (hb pins s1 σ H1 _ I1 q1) fun u2 s2 ⟨y, H2, I2, ry, n, ey, hn, q2⟩ => wpAny_bind (wpAny_standAt (wpAny_pure (wpAny_evalAll_nil ⟨trivial, ?_⟩)))))
  subst ey
  obtain ⟨t, rfl⟩ := ry
  show wpAny _ _ (call (.type "enumerate") [u] [(Str.ofString "start", .int (n : Int) t)]) _ _ s2
  have hfit : Builtin.SmallTypes.fitsIndex (n : Int) = true := by
    unfold Builtin.SmallTypes.fitsIndex
    have e : ((2 : Int) ^ 63) = 9223372036854775808 := by decide
    simp only [e, Bool.and_eq_true, decide_eq_true_eq]
    omega
  unfold enItS at q2
  split at q2
  · rename_i l _
    cases ru
    have fp : ∀ b ∈ [s2.heap.objs.size + 1, s2.heap.objs.size], FpOk X pins H2 b := fun b hb => by
      have : s2.heap.objs.size ≤ b := by
        rcases List.mem_cons.mp hb with z | z
        · rw [z]; exact Nat.le_succ _
        · have z' : b = s2.heap.objs.size := by simpa using z
          rw [z']; exact Nat.le_refl _
      exact I2.fpOk this (I2.hok.fresh this)
    rcases q2 with ⟨xs, hl, q2⟩ | ⟨xs, hl, q2⟩
    · obtain ⟨its, rv, pl, hz⟩ := I2.list (SqL.of hl)
      refine call_enumL pl.isList hfit fun h1 he hit hk => ?_
      refine wpAny_pyIter_enum he ?_
      refine ⟨s2.heap.objs.size + 1, [s2.heap.objs.size + 1, s2.heap.objs.size], _, _, H2, rfl, I2.kept (t' := s2.toks) hk, turn_enum (b := n) (ok := fun H => H l = some (.lst xs)) (xs := xs) (St0 := fun i h => h.IsListIter s2.heap.objs.size l i) (Nat.succ_ne_self _) ?_ ?_ ?_, ⟨⟨.none, he⟩, hit⟩, fp, q2⟩
      · intro X' h1 h2 h3 hc i pins s σ H I ok hn st
        exact h1 ▸ h2 ▸ drawList hc I (SqL.of ok) hn (by rw [ok]; exact fun z => nomatch z) st
      · intro i h st
        obtain ⟨o, ho, hc, hd⟩ := st
        exact ⟨o, ho, fun v q => by rw [hd] at q; cases q⟩
      · intro i h h' st kk
        exact st.at kk
    · obtain ⟨its, rv, pl, hz⟩ := I2.tuple (SqT.of hl)
      refine call_enumT pl hfit fun h1 he hit hk => ?_
      refine wpAny_pyIter_enum he ?_
      refine ⟨s2.heap.objs.size + 1, [s2.heap.objs.size + 1, s2.heap.objs.size], _, _, H2, rfl, I2.kept (t' := s2.toks) hk, turn_enum (b := n) (ok := fun H => H l = some (.tup xs)) (xs := xs) (St0 := fun i h => h.IsTupleIter s2.heap.objs.size l i) (Nat.succ_ne_self _) ?_ ?_ ?_, ⟨⟨.none, he⟩, hit⟩, fp, q2⟩
      · intro X' h1 h2 h3 hc i pins s σ H I ok hn st
        exact h1 ▸ h2 ▸ drawTup hc I (SqT.of ok) hn (by rw [ok]; exact fun z => nomatch z) st
      · intro i h st
        obtain ⟨o, ho, hc, hd⟩ := st
        exact ⟨o, ho, fun v q => by rw [hd] at q; cases q⟩
      · intro i h h' st kk
        exact st.at kk
  · exact q2.elim
end
/-- over a row that is numbered -/
theorem for_en {b : Nat} {xs : List V} {ok : Hp → Prop} {g : TG} {tb : TS} {D : Ends} {σ : St} {H : Hp} (Pv : Nat → St → Hp → Prop) (h0 : Pv 0 σ H) (hok : ∀ i σ H, i ≤ xs.length → Pv i σ H → ok H)
    (hs : ∀ i v σ H T, xs[i]? = some v → Pv i σ H → H T = none → g (.ref T) σ (upd H T (.tup [.int ((b : Int) + (i : Int)), v])) fun σ2 H2 => tb { D with nx := Pv (i + 1), ct := Pv (i + 1), bk := D.nx } σ2 H2) (hd : ∀ σ H, Pv xs.length σ H → D.nx σ H) :
    ∃ W : Nat → Nat → St → Hp → Prop, (∃ m, W 0 m σ H) ∧ ∀ i m σ H, W i m σ H →
      ((Ien b xs ok).stop i H ∧ D.nx σ H) ∨ ((Ien b xs ok).go i H ∧ ∃ N : St → Hp → Prop, (∀ σ' H', N σ' H' → ∃ m', m' < m ∧ W (i + 1) m' σ' H') ∧ ∀ x H', (Ien b xs ok).yld i H x H' → g x σ H' fun σ2 H2 => tb { D with nx := N, ct := N, bk := D.nx } σ2 H2) := by
  refine ⟨fun i m σ H => m = xs.length - i ∧ i ≤ xs.length ∧ Pv i σ H, ⟨xs.length, by simp, Nat.zero_le _, h0⟩, fun i m σ' H' w => ?_⟩
  obtain ⟨rfl, hi, p⟩ := w
  have ho := hok i σ' H' hi p
  by_cases hlt : i < xs.length
  · refine .inr ⟨⟨ho, hlt⟩, Pv (i + 1), fun σ2 H2 p' => ⟨xs.length - (i + 1), by omega, rfl, hlt, p'⟩, fun x H2 y => ?_⟩
    obtain ⟨T, v, hT, hv, rfl, rfl⟩ := y
    exact hs i v σ' H' T hv p hT
  · have e : i = xs.length := by omega
    exact .inl ⟨⟨ho, e⟩, hd σ' H' (e ▸ p)⟩
end L2

set_option Elab.async false
set_option linter.all false
set_option maxRecDepth 100000
namespace L2
open PySem PySem.Spec PyProof.Rows
/-! ### the readings, step by step, from the outside -/
section
variable {σ : St} {H : Hp} {D : Ends} {Q : VK} {QB : Bool → Hp → Prop} {QA : List V → Hp → Prop}
theorem i_seq {t u : TS} (h : t { D with nx := u D } σ H) : tSeq t u D σ H := h
theorem i_ifs {c : TT} {t u : TS} (h : c σ H fun b H1 => if b = true then t D σ H1 else u D σ H1) : tIfS c t u D σ H := h
theorem i_next (h : D.nx σ H) : tNext D σ H := h
theorem i_ret {te : TE} (h : te σ H D.rt) : tRet te D σ H := h
theorem i_retN (h : D.rt .non H) : tRetN D σ H := h
theorem i_drop {te : TE} (h : te σ H fun _ H1 => D.nx σ H1) : tDrop te D σ H := h
theorem i_asg {te : TE} {g : TG} (h : te σ H fun x H1 => g x σ H1 D.nx) : tAsg te g D σ H := h
theorem i_name {i : Nat} {v : V} {K : St → Hp → Prop} (h : K (σ.set i (some v)) H) : gName i v σ H K := h
theorem i_gsub {to ti : TE} {t : TSet} {v : V} {K : St → Hp → Prop} (h : to σ H fun o H1 => ti σ H1 fun i H2 => t o i v H2 fun H3 => K σ H3) : gSub to ti t v σ H K := h
theorem i_gtup {K' : PySem.W.Frag} {n : Nat} {t : TGs} {a : Addr} {xs : List V} {K : St → Hp → Prop} (h1 : H a = some (.tup xs)) (h2 : xs.length = n) (h : t xs σ H K) : gTup K' n t (.ref a) σ H K := ⟨a, xs, rfl, SqT.of h1, h2, h⟩
theorem i_gnil {K : St → Hp → Prop} (h : K σ H) : gNil [] σ H K := ⟨rfl, h⟩
theorem i_gcons {t : TG} {u : TGs} {v : V} {r : List V} {K : St → Hp → Prop} (h : t v σ H fun σ' H' => u r σ' H' K) : gCons t u (v :: r) σ H K := ⟨v, r, rfl, h⟩
theorem i_for {wi : TI} {g : TG} {tb : TS} (h : wi σ H fun J H1 => ∃ W : Nat → Nat → St → Hp → Prop, (∃ m, W 0 m σ H1) ∧ ∀ i m σ H, W i m σ H →
  (J.stop i H ∧ D.nx σ H) ∨ (J.go i H ∧ ∃ N : St → Hp → Prop, (∀ σ' H', N σ' H' → ∃ m', m' < m ∧ W (i + 1) m' σ' H') ∧ ∀ x H', J.yld i H x H' → g x σ H' fun σ2 H2 => tb { D with nx := N, ct := N, bk := D.nx } σ2 H2)) : tFor wi g tb D σ H := h
theorem i_break (h : D.bk σ H) : tBreak D σ H := h
theorem i_cont (h : D.ct σ H) : tCont D σ H := h
theorem i_var {i : Nat} {v : V} (e : σ[i]? = some (some v)) (h : Q v H) : tVar i σ H Q := ⟨v, e, h⟩
theorem i_c {v : V} (h : Q v H) : tC v σ H Q := h
theorem i_op {r : R2} {ta tb : TE} (h : ta σ H fun x H1 => tb σ H1 fun y H2 => r x y H2 Q) : tOp r ta tb σ H Q := h
theorem i_un {r : V → Hp → VK → Prop} {ta : TE} (h : ta σ H fun x H1 => r x H1 Q) : tUn r ta σ H Q := h
theorem i_test {t : TE} (h : t σ H fun x H' => ∃ k, x = .bl k ∧ QB k H') : tTest t σ H QB := h
theorem i_bl {b : Bool} {P : Bool → Prop} (h : P b) : ∃ k, V.bl b = .bl k ∧ P k := ⟨b, rfl, h⟩
theorem i_and {t u : TT} (h : t σ H fun c H1 => if c = true then u σ H1 QB else QB false H1) : tAnd t u σ H QB := h
theorem i_or {t u : TT} (h : t σ H fun c H1 => if c = true then QB true H1 else u σ H1 QB) : tOr t u σ H QB := h
theorem i_not {t : TT} (h : t σ H fun c H1 => QB (!c) H1) : tNot t σ H QB := h
theorem i_andV {ta tb : TE} (h : ta σ H fun x H1 => ∃ c, x = .bl c ∧ if c = true then tb σ H1 Q else Q (.bl false) H1) : tAndV ta tb σ H Q := h
theorem i_orV {ta tb : TE} (h : ta σ H fun x H1 => ∃ c, x = .bl c ∧ if c = true then Q (.bl true) H1 else tb σ H1 Q) : tOrV ta tb σ H Q := h
theorem i_notV {ta : TE} (h : ta σ H fun x H1 => ∃ c, x = .bl c ∧ Q (.bl (!c)) H1) : tNotV ta σ H Q := h
theorem i_ifE {t : TT} {ta tb : TE} (h : t σ H fun c H1 => if c = true then ta σ H1 Q else tb σ H1 Q) : tIf t ta tb σ H Q := h
theorem i_chain {r r' : R2} {ta tb tc : TE} (h : ta σ H fun x H1 => tb σ H1 fun y H2 => r x y H2 fun z H3 => ∃ k, z = .bl k ∧ (if k = true then tc σ H3 fun w' H4 => r' y w' H4 Q else Q (.bl false) H3)) : tChain r r' ta tb tc σ H Q := h
theorem i_nil (h : QA [] H) : tNil σ H QA := h
theorem i_cons {ta : TE} {tr : TA} (h : ta σ H fun x H1 => tr σ H1 fun xs H2 => QA (x :: xs) H2) : tCons ta tr σ H QA := h
theorem i_cb {r : List V → Hp → VK → Prop} {t : TA} (h : t σ H fun vs H1 => r vs H1 Q) : tCB r t σ H Q := h
theorem i_call {sp : Sp} {dvs : List V} {E : XK} {t : TA} (h : t σ H fun vs H1 => sp (vs ++ dvs) H1 Q E) : tCall sp dvs E t σ H Q := h
theorem i_lst {t : TA} (h : t σ H fun xs H1 => xs.length ≤ sizeLine ∧ ∀ p, H1 p = none → Q (.ref p) (upd H1 p (.lst xs))) : tLst t σ H Q := h
theorem i_tup {t : TA} (h : t σ H fun xs H1 => xs.length ≤ sizeLine ∧ ∀ p, H1 p = none → Q (.ref p) (upd H1 p (.tup xs))) : tTup t σ H Q := h
theorem i_bm {K : PySem.W.Frag} {T : String} {r : V → List V → Hp → VK → Prop} {to : TE} {t : TA} (h : to σ H fun x H1 => tyV K T x H1 ∧ t σ H1 fun xs H2 => r x xs H2 Q) : tBM K T r to t σ H Q := h
theorem i_bm0 {K : PySem.W.Frag} {T : String} {r : V → List V → Hp → VK → Prop} {to : TE} (h : to σ H fun x H1 => tyV K T x H1 ∧ r x [] H1 Q) : tBM0 K T r to σ H Q := h
theorem i_sl {r : V → Option Int → Option Int → Hp → VK → Prop} {te : TE} {tl th : TO} (h : te σ H fun x H1 => tl σ H1 fun l H2 => th σ H2 fun u H3 => r x l u H3 Q) : tSl r te tl th σ H Q := h
theorem i_nopart {K : Option Int → Hp → Prop} (h : K none H) : tNoPart σ H K := h
theorem i_part {t : TE} {K : Option Int → Hp → Prop} (h : t σ H fun x H1 => ∃ i, x = .int i ∧ K (some i) H1) : tPart t σ H K := h
theorem i_exI {i : Int} {P : Int → Prop} (h : P i) : ∃ k, V.int i = .int k ∧ P k := ⟨i, rfl, h⟩
theorem i_comp {ix : List (Option Nat)} {wi : TI} {g : TG} {tc : TT} {te : TE} (h : wi σ H fun J H1 => ∀ p, H1 p = none → CompRuns J p g tc te Q (pick ix σ) (upd H1 p (.lst []))) : tComp ix wi g tc te σ H Q := h
theorem i_true (h : QB true H) : tTrue σ H QB := h
theorem i_rng1 {ta : TA} {R : It → Hp → Prop} (h : ta σ H fun vs H1 => ∃ j : Int, vs = [.int j] ∧ -(2 ^ 62) ≤ j ∧ j < 2 ^ 62 ∧ R (Itr 0 j.toNat) H1) : iRng1 ta σ H R := h
theorem p62 : ((2 : Int) ^ 62) = 4611686018427387904 := by decide
theorem p63 : ((2 : Int) ^ 63) = 9223372036854775808 := by decide
theorem i_r1 {j : Int} {P : Int → Prop} (h1 : -1000000000 ≤ j ∧ j ≤ 1000000000) (h : P j) : ∃ k : Int, [V.int j] = [.int k] ∧ -(2 ^ 62) ≤ k ∧ k < 2 ^ 62 ∧ P k := ⟨j, rfl, by rw [p62]; omega, by rw [p62]; omega, h⟩
theorem i_rng2 {ta : TA} {R : It → Hp → Prop} (h : ta σ H fun vs H1 => ∃ i j : Int, vs = [.int i, .int j] ∧ (-(2 ^ 62) ≤ i ∧ i < 2 ^ 62 ∧ -(2 ^ 62) ≤ j ∧ j < 2 ^ 62) ∧ R (Itr i (j - i).toNat) H1) : iRng2 ta σ H R := h
theorem i_r2 {i j : Int} {P : Int → Int → Prop} (h1 : -1000000000 ≤ i ∧ i ≤ 1000000000 ∧ -1000000000 ≤ j ∧ j ≤ 1000000000) (h : P i j) : ∃ a b : Int, [V.int i, V.int j] = [.int a, .int b] ∧ (-(2 ^ 62) ≤ a ∧ a < 2 ^ 62 ∧ -(2 ^ 62) ≤ b ∧ b < 2 ^ 62) ∧ P a b := ⟨i, j, rfl, by rw [p62]; omega, h⟩
theorem i_any {K : PySem.W.Frag} {te : TE} {R : It → Hp → Prop} (h : te σ H (anyIt K R)) : iAny K te σ H R := h
theorem i_anyS {K : PySem.W.Frag} {R : It → Hp → Prop} {z : Str} (h : R (Its (chs z)) H) : anyIt K R (.str z) H := h
theorem i_anyL {K : PySem.W.Frag} {R : It → Hp → Prop} {a : Addr} {xs : List V} (h1 : SqL K H a xs) (h : R (Itl K a) H) : anyIt K R (.ref a) H := .inl ⟨xs, h1, h⟩
theorem i_anyT {K : PySem.W.Frag} {R : It → Hp → Prop} {a : Addr} {xs : List V} (h1 : SqT K H a xs) (h : R (Itt K a) H) : anyIt K R (.ref a) H := .inr ⟨xs, h1, h⟩
theorem i_enum {te : TE} {R : It → Hp → Prop} (h : te σ H (enIt R)) : iEnum te σ H R := h
theorem i_enumS {te ts : TE} {R : It → Hp → Prop} (h : te σ H fun x H1 => ts σ H1 fun y H2 => ∃ n : Nat, y = .int (n : Int) ∧ n < 1000000 ∧ enItS n R x H2) : iEnumS te ts σ H R := h
theorem i_enSL {n : Nat} {R : It → Hp → Prop} {a : Addr} {xs : List V} (h1 : H a = some (.lst xs)) (h : R (Ien n xs fun H => H a = some (.lst xs)) H) : enItS n R (.ref a) H := .inl ⟨xs, h1, h⟩
theorem i_enST {n : Nat} {R : It → Hp → Prop} {a : Addr} {xs : List V} (h1 : H a = some (.tup xs)) (h : R (Ien n xs fun H => H a = some (.tup xs)) H) : enItS n R (.ref a) H := .inr ⟨xs, h1, h⟩
theorem i_enS {R : It → Hp → Prop} {z : Str} (h : R (Ien 0 (chs z) fun _ => True) H) : enIt R (.str z) H := h
theorem i_tyS {K : PySem.W.Frag} {z : Str} {R : Prop} (h : R) : tyV K "str" (.str z) H ∧ R := ⟨rfl, h⟩
theorem i_tyL {K : PySem.W.Frag} {p : Addr} {xs : List V} {R : Prop} (h1 : SqL K H p xs) (h : R) : tyV K "list" (.ref p) H ∧ R := ⟨.inl ⟨rfl, xs, h1⟩, h⟩
/-! values -/
theorem i_fI0 {g : Int → Int → V} {i j : Int} (h : Q (g i j) H) : fI0 g (.int i) (.int j) H Q := h
theorem i_fI {C : Int → Int → Prop} {g : Int → Int → V} {i j : Int} (c : C i j) (h : Q (g i j) H) : fI C g (.int i) (.int j) H Q := ⟨c, h⟩
theorem i_addI {i j : Int} (h : Q (.int (i + j)) H) : fAdd (.int i) (.int j) H Q := h
theorem i_addS {i j : Str} (c : i.length + j.length ≤ sizeLine) (h : Q (.str (i ++ j)) H) : fAdd (.str i) (.str j) H Q := ⟨c, h⟩
theorem i_addL {a b : Addr} {xs ys : List V} (h1 : H a = some (.lst xs)) (h2 : H b = some (.lst ys)) (c : xs.length + ys.length ≤ sizeLine) (h : ∀ p, H p = none → Q (.ref p) (upd H p (.lst (xs ++ ys)))) : fAdd (.ref a) (.ref b) H Q := by
  show (match H a, H b with | some (.lst xs), some (.lst ys) => _ | some (.tup xs), some (.tup ys) => _ | _, _ => _)
  rw [h1, h2]; exact ⟨c, h⟩
theorem i_mulI {i j : Int} (c : CMul i j) (h : Q (.int (i * j)) H) : fMul (.int i) (.int j) H Q := ⟨c, h⟩
theorem i_mulS {z : Str} {n : Int} (c : z.length * n.toNat ≤ 1000000 ∧ -1000000000 ≤ n ∧ n ≤ 1000000000) (h : Q (.str (Txt.mul z n)) H) : fMul (.str z) (.int n) H Q := ⟨c.1, by rw [p62]; omega, by rw [p62]; omega, h⟩
theorem i_mulL {a : Addr} {xs : List V} {k : Int} (h1 : H a = some (.lst xs)) (c : -1000000000 ≤ k ∧ k ≤ 1000000000 ∧ xs.length * k.toNat ≤ 1000000) (h : ∀ p, H p = none → Q (.ref p) (upd H p (.lst (List.replicate k.toNat xs).flatten))) : fMul (.ref a) (.int k) H Q := by
  show (match H a with | some (.lst xs) => _ | _ => _)
  rw [h1]; exact ⟨by rw [p63]; omega, by rw [p63]; omega, Nat.le_trans c.2.2 (by decide), h⟩
theorem i_ixK {K : PySem.W.Frag} {p : Addr} {i : Int} {xs : List V} {v : V} (h1 : SqL K H p xs) (h2 : atI xs i = some v) (h : Q v H) : fIx K (.ref p) (.int i) H Q := ⟨xs, v, .inl h1, h2, h⟩
theorem i_ixR {K : PySem.W.Frag} {p : Addr} {i : Int} {xs : List V} {v : V} (h1 : seqR H p = some xs) (h2 : atI xs i = some v) (h : Q v H) : fIx K (.ref p) (.int i) H Q := ⟨xs, v, seqR_sq h1, h2, h⟩
theorem i_ixS {K : PySem.W.Frag} {z : Str} {i : Int} {c : Nat} (hz : z.length ≤ sizeLine) (h2 : atI z.cps.toList i = some c) (h : Q (.str ⟨#[c]⟩) H) : fIx K (.str z) (.int i) H Q := by
  refine ⟨hz, ?_⟩
  rw [h2]; exact h
theorem i_set {p : Addr} {k : Int} {v : V} {xs : List V} {j : Nat} {K : Hp → Prop} (h1 : H p = some (.lst xs)) (h2 : ixN xs.length k = some j) (h : K (upd H p (.lst (xs.set j v)))) : fSet (.ref p) (.int k) v H K := by
  show (match H p with | some (.lst xs) => (match ixN xs.length k with | some j => K (upd H p (.lst (xs.set j v))) | none => False) | _ => False)
  rw [h1]; dsimp only; rw [h2]; exact h
theorem i_neg {i : Int} (h : Q (.int (-i)) H) : fNeg (.int i) H Q := h
theorem i_eq {x y : V} (c : scal x y = true) (h : Q (.bl (decide (x = y))) H) : fEq x y H Q := .inl ⟨c, h⟩
theorem i_ne {x y : V} (c : scal x y = true) (h : Q (.bl (!decide (x = y))) H) : fNe x y H Q := .inl ⟨c, h⟩
theorem i_neD {x y : V} {d : Dt} (h1 : Is H x d) (h2 : Is H y d) (c : okD d) (h : Q (.bl false) H) : fNe x y H Q := .inr ⟨d, d, h1, h2, c, c, by rw [eqD_self c]; exact h⟩
theorem i_eqD {x y : V} {d e : Dt} (h1 : Is H x d) (h2 : Is H y e) (c : okD d) (c2 : okD e) (h : Q (.bl (eqD d e)) H) : fEq x y H Q := .inr ⟨d, e, h1, h2, c, c2, h⟩
theorem i_neE {x y : V} {d e : Dt} (h1 : Is H x d) (h2 : Is H y e) (c : okD d) (c2 : okD e) (h : Q (.bl (!eqD d e)) H) : fNe x y H Q := .inr ⟨d, e, h1, h2, c, c2, h⟩
theorem i_is {x : V} (h : Q (.bl (decide (x = .non))) H) : fIs x .non H Q := ⟨rfl, h⟩
theorem i_isnot {x : V} (h : Q (.bl (!decide (x = .non))) H) : fIsNot x .non H Q := ⟨rfl, h⟩
theorem i_inS {neg : Bool} {i j : Str} (h : Q (.bl (xor neg (Txt.contains j i))) H) : fIn neg (.str i) (.str j) H Q := h
theorem i_inR {neg : Bool} {x : V} {p : Addr} {xs : List V} (h1 : seqR H p = some xs) (c : flatV x = true ∧ xs.all flatV = true) (h : Q (.bl (if neg then !inV x xs else inV x xs)) H) : fIn neg x (.ref p) H Q := by
  unfold fIn
  cases x <;> (dsimp only; rw [h1]; exact ⟨c.1, c.2, h⟩)
theorem i_lenS {K : PySem.W.Frag} {z : Str} (hz : z.length ≤ sizeLine) (h : Q (.int z.length) H) : fLen K [.str z] H Q := ⟨hz, h⟩
theorem i_lenK {K : PySem.W.Frag} {p : Addr} {xs : List V} (h1 : SqL K H p xs) (h : Q (.int xs.length) H) : fLen K [.ref p] H Q := ⟨xs, .inl h1, h⟩
theorem i_lenR {K : PySem.W.Frag} {p : Addr} {xs : List V} (h1 : seqR H p = some xs) (h : Q (.int xs.length) H) : fLen K [.ref p] H Q := ⟨xs, seqR_sq h1, h⟩
theorem i_1I {g : Int → V} {i : Int} (h : Q (g i) H) : f1I g [.int i] H Q := h
theorem i_2I {g : Int → Int → V} {i j : Int} (h : Q (g i j) H) : f2I g [.int i, .int j] H Q := h
theorem i_intB {b : Bool} (h : Q (.int (if b then 1 else 0)) H) : fInt [.bl b] H Q := h
theorem i_intI {i : Int} (h : Q (.int i) H) : fInt [.int i] H Q := h
theorem i_listR {p : Addr} {xs : List V} (h1 : seqR H p = some xs) (h : ∀ q, H q = none → Q (.ref q) (upd H q (.lst xs))) : fList [.ref p] H Q := by
  show (match seqR H p with | some ys => GetL H ys Q | none => False)
  rw [h1]; exact h
theorem i_tupleR {p : Addr} {xs : List V} (h1 : seqR H p = some xs) (h : GetT H xs Q) : fTuple [.ref p] H Q := by
  show (match seqR H p with | some ys => GetT H ys Q | none => False)
  rw [h1]; exact h
theorem i_slS {K : PySem.W.Frag} {z : Str} {lo hi : Option Int} (hz : z.length ≤ sizeLine) (h : Q (.str (Txt.slice z lo hi)) H) : fSl K (.str z) lo hi H Q := ⟨hz, h⟩
theorem i_slL {K : PySem.W.Frag} {a : Addr} {xs : List V} {lo hi : Option Int} (h1 : SqL K H a xs) (h : ∀ q, H q = none → Q (.ref q) (upd H q (.lst (cutV xs lo hi)))) : fSl K (.ref a) lo hi H Q := .inl ⟨xs, h1, h⟩
theorem i_slT {K : PySem.W.Frag} {a : Addr} {xs : List V} {lo hi : Option Int} (h1 : H a = some (.tup xs)) (c : ¬ (HT.sIx xs.length 0 lo = 0 ∧ HT.sIx xs.length xs.length hi = xs.length)) (h : GetT H (cutV xs lo hi) Q) : fSl K (.ref a) lo hi H Q := .inr ⟨xs, SqT.of h1, c, h⟩
theorem i_truB {b : Bool} (h : QB b H) : fTru (.bl b) H QB := h
theorem i_truI {i : Int} (h : QB (i != 0) H) : fTru (.int i) H QB := h
theorem i_appL {l : Addr} {y : V} {xs : List V} (h1 : H l = some (.lst xs)) (c : xs.length < sizeLine) (h : Q .non (upd H l (.lst (xs ++ [y])))) : fAppend (.ref l) [y] H Q := by
  show (match H l with | some (.lst xs) => xs.length < sizeLine ∧ Q .non (upd H l (.lst (xs ++ [y]))) | _ => False)
  rw [h1]; exact ⟨c, h⟩
theorem i_revL {l : Addr} {xs : List V} (h1 : H l = some (.lst xs)) (h : Q .non (upd H l (.lst xs.reverse))) : fReverse (.ref l) [] H Q := by
  show (match H l with | some (.lst xs) => Q .non (upd H l (.lst xs.reverse)) | _ => False)
  rw [h1]; exact h
theorem i_join {z : Str} {p : Addr} {ys : List Str} (h1 : lstR H p = some (ys.map V.str)) (c : (ys.map (·.length)).sum + ys.length * z.length ≤ 16777216) (h : Q (.str (Txt.join z ys)) H) : fJoin (.str z) [.ref p] H Q := by
  show (match lstR H p with | some xs => (match strs? xs with | some ys => (ys.map (·.length)).sum + ys.length * z.length ≤ 16777216 ∧ Q (.str (Txt.join z ys)) H | none => False) | none => False)
  rw [h1]; dsimp only; rw [strs?_map]; exact ⟨c, h⟩
theorem i_SS {g : Str → Str → V} {z y : Str} (h : Q (g z y) H) : fSS g (.str z) [.str y] H Q := h
theorem i_SSI {g : Str → Str → Int → V} {z y : Str} {i : Int} (h : Q (g z y i) H) : fSSI g (.str z) [.str y, .int i] H Q := h
theorem i_allL {f : List Bool → Bool} {p : Addr} {bs : List Bool} (h1 : lstR H p = some (bs.map V.bl)) (h : Q (.bl (f bs)) H) : fAll f [.ref p] H Q := by
  show (match lstR H p with | some ys => (match bls? ys with | some bs => Q (.bl (f bs)) H | none => False) | none => False)
  rw [h1]; dsimp only; rw [bls?_map]; exact h
theorem i_isi {x : V} {t T : String} (h1 : tyN H x = some t) (c : knownT T = true) (h : Q (.bl (subB t T)) H) : fIsi [x, .ty T] H Q := by
  show (match tyN H x with | some t => knownT T = true ∧ Q (.bl (subB t T)) H | none => False)
  rw [h1]; exact ⟨c, h⟩
theorem i_isi2 {x : V} {p : Addr} {t T T' : String} (h1 : tyN H x = some t) (h2 : H p = some (.tup [.ty T, .ty T'])) (c : knownT T = true ∧ knownT T' = true) (h : Q (.bl (subB t T || subB t T')) H) : fIsi [x, .ref p] H Q := by
  show (match tyN H x, tupR H p with | some t, some ts => (match tys? ts with | some Ts => Ts.all knownT = true ∧ Q (.bl (Ts.any (subB t))) H | none => False) | _, _ => False)
  rw [h1, tupR_of h2]
  show [T, T'].all knownT = true ∧ Q (.bl ([T, T'].any (subB t))) H
  refine ⟨by simp [c.1, c.2], ?_⟩
  have e : [T, T'].any (subB t) = (subB t T || subB t T') := by simp
  rw [e]; exact h
end
/-! small facts -/
theorem iteD {c A B : Prop} [Decidable c] (h1 : c → A) (h2 : ¬ c → B) : if decide c = true then A else B := by
  by_cases h : c
  · rw [if_pos (decide_eq_true h)]; exact h1 h
  · rw [if_neg (by rw [decide_eq_false h]; exact Bool.false_ne_true)]; exact h2 h
theorem iteDT {c A B : Prop} [Decidable c] (hc : c) (h : A) : if decide c = true then A else B := by rw [if_pos (decide_eq_true hc)]; exact h
theorem iteDF {c A B : Prop} [Decidable c] (hc : ¬ c) (h : B) : if decide c = true then A else B := by rw [if_neg (by rw [decide_eq_false hc]; exact Bool.false_ne_true)]; exact h
theorem iteBT {b : Bool} {A B : Prop} (h : b = true) (hA : A) : if b = true then A else B := by rw [if_pos h]; exact hA
theorem iteBF {b : Bool} {A B : Prop} (h : b = false) (hB : B) : if b = true then A else B := by rw [h]; exact iteF hB
theorem szc {xs : List V} (h : decide (xs.length ≤ 1000) = true) : xs.length ≤ sizeLine := Nat.le_trans (of_decide_eq_true h) (by decide)
theorem szn {n : Nat} (h : n ≤ 1000000) : n ≤ sizeLine := Nat.le_trans h (by decide)
theorem i_sz {xs : List V} {R : Prop} (h : xs.length ≤ sizeLine) (r : R) : xs.length ≤ sizeLine ∧ R := ⟨h, r⟩
theorem tyN_tup {H : Hp} {a : Addr} {xs : List V} (h : H a = some (.tup xs)) : tyN H (.ref a) = some "tuple" := by
  show (match H a with | some (.lst _) => some "list" | some (.frz _ (.lst _)) => some "list" | some (.tup _) => some "tuple" | _ => none) = _
  rw [h]
theorem tyN_lst {H : Hp} {a : Addr} {xs : List V} (h : H a = some (.lst xs)) : tyN H (.ref a) = some "list" := by
  show (match H a with | some (.lst _) => some "list" | some (.frz _ (.lst _)) => some "list" | some (.tup _) => some "tuple" | _ => none) = _
  rw [h]
theorem same_new {H : Hp} {p : Addr} (h : H p = none) (o : HO) : Same H (upd H p o) := fun b u q => by rw [upd_ne (ne_of_none q h)]; exact q
theorem iteB {b : Bool} {A B : Prop} (h1 : b = true → A) (h2 : b = false → B) : if b = true then A else B := by
  cases b
  · exact iteF (h2 rfl)
  · exact iteT (h1 rfl)
theorem atI_0 {α : Type} (x : α) (xs : List α) : atI (x :: xs) 0 = some x := atI_nat (xs := x :: xs) (j := 0) (v := x) rfl
theorem atI_1 {α : Type} (x y : α) (xs : List α) : atI (x :: y :: xs) 1 = some y := atI_nat (xs := x :: y :: xs) (j := 1) (v := y) rfl
theorem atI_2 {α : Type} (x y z : α) (xs : List α) : atI (x :: y :: z :: xs) 2 = some z := atI_nat (xs := x :: y :: z :: xs) (j := 2) (v := z) rfl
theorem atI_3 {α : Type} (x y z u : α) (xs : List α) : atI (x :: y :: z :: u :: xs) 3 = some u := atI_nat (xs := x :: y :: z :: u :: xs) (j := 3) (v := u) rfl
theorem ixN_of {n : Nat} {i : Int} (h : 0 ≤ i) (h2 : i < n) : ixN n i = some i.toNat := by
  unfold ixN; rw [if_pos h, if_pos h2]
theorem seqR_upd {H : Hp} {p : Addr} {xs : List V} : seqR (upd H p (.lst xs)) p = some xs := seqR_lst upd_same
theorem lstR_upd {H : Hp} {p : Addr} {xs : List V} : lstR (upd H p (.lst xs)) p = some xs := lstR_of upd_same
theorem seqR_updT {H : Hp} {p : Addr} {xs : List V} : seqR (upd H p (.tup xs)) p = some xs := seqR_tup upd_same
theorem atI_of {α : Type} {xs : List α} {i : Int} {v : α} (h : 0 ≤ i) (h2 : xs[i.toNat]? = some v) : atI xs i = some v := by
  have e : i = ((i.toNat : Nat) : Int) := by omega
  rw [e]; exact atI_nat h2
theorem CMul.l {i j : Int} (h1 : -(2 ^ 64) < i) (h2 : i < 2 ^ 64) : CMul i j := .inl ⟨h1, h2⟩
theorem CMul.r {i j : Int} (h1 : -(2 ^ 64) < j) (h2 : j < 2 ^ 64) : CMul i j := .inr ⟨h1, h2⟩
/-- only p has changed -/
def Off (p : Addr) (H H' : Hp) : Prop := ∀ b, b ≠ p → H' b = H b
/-- all but p has stayed; there may be more -/
def Kept (p : Addr) (H H' : Hp) : Prop := ∀ b o, b ≠ p → H b = some o → H' b = some o
theorem Off.kept {p : Addr} {H H' : Hp} (h : Off p H H') : Kept p H H' := fun b o hb e => (h b hb).trans e
theorem Off.refl (p : Addr) (H : Hp) : Off p H H := fun _ _ => rfl
theorem Off.trans {p : Addr} {H H1 H2 : Hp} (a : Off p H H1) (b : Off p H1 H2) : Off p H H2 := fun c hc => (b c hc).trans (a c hc)
theorem Off.upd {p : Addr} {H H1 : Hp} (a : Off p H H1) (o : HO) : Off p H (L2.upd H1 p o) := fun c hc => (upd_ne hc).trans (a c hc)
theorem Kept.refl (p : Addr) (H : Hp) : Kept p H H := fun _ _ _ e => e
theorem Kept.trans {p : Addr} {H H1 H2 : Hp} (a : Kept p H H1) (b : Kept p H1 H2) : Kept p H H2 := fun c o hc e => b c o hc (a c o hc e)
theorem Kept.new {p q : Addr} {H H1 : Hp} (a : Kept p H H1) (hq : H1 q = none) (o : HO) : Kept p H (L2.upd H1 q o) := fun c u hc e => by
  rw [upd_ne (ne_of_none (a c u hc e) hq)]; exact a c u hc e
end L2

set_option Elab.async false
set_option linter.all false
set_option maxRecDepth 100000
namespace L2
open PySem PySem.Spec PyProof.Rows
/-! ### written data -/
mutual
def cstE : Expr → Option Dt
  | .Constant (.int i) _ _ => some (.int i)
  | .Constant (.str x) _ _ => some (.str x)
  | .Constant (.bool b) _ _ => some (.bl b)
  | .Tuple es _ _ => (cstL es).map .tup
  | .List es _ => (cstL es).map .lst
  | _ => none
def cstL : List Expr → Option (List Dt)
  | [] => some []
  | e :: es => match cstE e, cstL es with
    | some d, some ds => if ds.length < 1000 then some (d :: ds) else none
    | _, _ => none
end
def tData (d : Dt) : TE := fun _ H Q => ∀ v H', Is H' v d → Same H H' → Q v H'
def tDatas (ds : List Dt) : TA := fun _ H Q => ∀ vs H', IsL H' vs ds → Same H H' → Q vs H'
theorem PA.imp {X : Cx} {es : List Expr} {t t' : TA} (h : PA X es t) (hi : ∀ σ H Q, t' σ H Q → t σ H Q) : PA X es t' := fun pos pins s σ H Q I q => h pos pins s σ H Q I (hi σ H Q q)
theorem cst_len : ∀ {es : List Expr} {ds : List Dt}, cstL es = some ds → ds.length ≤ 1000
  | [], ds, h => by simp only [cstL] at h; cases h; exact Nat.zero_le _
  | e :: es, ds, h => by
    simp only [cstL] at h
    split at h
    · split at h
      · rename_i hl; cases h; simp only [List.length_cons]; omega
      · cases h
    · cases h
theorem cst_star {X : Cx} {e : Expr} {es : List Expr} {d : Dt} (h : cstE e = some d) : starEach (e :: es) X.env = (false, eval e X.env) :: starEach es X.env := by
  cases e <;> first | rfl | (simp only [cstE] at h; cases h)
mutual
theorem pe_cst {X : Cx} : ∀ {e : Expr} (d : Dt), cstE e = some d → PE X e (tData d)
  | .Constant c k p, d, h => by
    cases c with
    | int i => simp only [cstE] at h; cases h; exact pe_int.imp fun σ H Q q => q _ _ (by simp only [Is]) (Same.refl H)
    | str x => simp only [cstE] at h; cases h; exact pe_str.imp fun σ H Q q => q _ _ (by simp only [Is]) (Same.refl H)
    | bool b => simp only [cstE] at h; cases h; exact pe_bl.imp fun σ H Q q => q _ _ (by simp only [Is]) (Same.refl H)
    | _ => simp only [cstE] at h; cases h
  | .Tuple es x1 p, d, h => by
    simp only [cstE] at h
    cases e : cstL es with
    | none => rw [e] at h; cases h
    | some ds =>
      rw [e] at h
      cases h
      refine (pe_tup (pa_cst ds e)).imp fun σ H Q q vs H' hv hs => ⟨szn (by rw [IsL.length hv]; have := cst_len e; omega), fun p hp => q _ _ ?_ (hs.trans (same_new hp _))⟩
      simp only [Is]
      exact ⟨p, vs, rfl, upd_same, IsL.same (same_new hp _) hv⟩
  | .List es p, d, h => by
    simp only [cstE] at h
    cases e : cstL es with
    | none => rw [e] at h; cases h
    | some ds =>
      rw [e] at h
      cases h
      refine (pe_lst (pa_cst ds e)).imp fun σ H Q q vs H' hv hs => ⟨szn (by rw [IsL.length hv]; have := cst_len e; omega), fun p hp => q _ _ ?_ (hs.trans (same_new hp _))⟩
      simp only [Is]
      exact ⟨p, vs, rfl, upd_same, IsL.same (same_new hp _) hv⟩
  | .Name _ _, d, h => by simp only [cstE] at h; cases h
  | .BinOp _ _ _ _, d, h => by simp only [cstE] at h; cases h
  | .Call _ _ _ _, d, h => by simp only [cstE] at h; cases h
theorem pa_cst {X : Cx} : ∀ {es : List Expr} (ds : List Dt), cstL es = some ds → PA X es (tDatas ds)
  | [], ds, h => by
    simp only [cstL] at h
    cases h
    exact pa_nil.imp fun σ H Q q => q [] H (by simp only [IsL]) (Same.refl H)
  | e :: es, ds, h => by
    simp only [cstL] at h
    split at h
    · rename_i d ds' h1 h2
      split at h
      · cases h
        refine (pa_cons (pe_cst d h1) (pa_cst ds' h2) (cst_star h1)).imp fun σ H Q q v H1 hv s1 vs H2 hvs s2 => q (v :: vs) H2 ?_ (s1.trans s2)
        simp only [IsL]
        exact ⟨Is.same s2 hv, hvs⟩
      · cases h
    · cases h
end
theorem i_data {σ : St} {H : Hp} {Q : VK} {d : Dt} (h : ∀ v H', Is H' v d → Same H H' → Q v H') : tData d σ H Q := h
end L2

set_option Elab.async false
set_option linter.all false
set_option maxRecDepth 100000
namespace L2
open PySem PySem.Spec PyProof.Rows
/-- small letters -/
def LET : Str := S [97, 98, 99, 100, 101, 102, 103, 104, 105, 106, 107, 108, 109, 110, 111, 112, 113, 114, 115, 116, 117, 118, 119, 120, 121, 122]
theorem let_eq : Str.ofString "abcdefghijklmnopqrstuvwxyz" = LET := by decide +kernel
theorem let_has (c : Nat) : Txt.contains LET (S [c]) = isLow c := by
  show (!(Builtin.Str.occurrences LET ⟨#[c]⟩ 0 LET.length 1).isEmpty) = _
  rw [StrLaws.found_one]
  show decide (c ∈ [97, 98, 99, 100, 101, 102, 103, 104, 105, 106, 107, 108, 109, 110, 111, 112, 113, 114, 115, 116, 117, 118, 119, 120, 121, 122]) = _
  unfold isLow
  rw [decide_eq_decide]
  simp only [List.mem_cons, List.not_mem_nil, or_false]
  omega
/-! ### a drawing's feed -/
def FeedAt (H : Hp) (p : Addr) (n : Nat) : Prop := ∃ a b c : Int, H p = some (.lst [.int a, .int b, .int c]) ∧ 0 ≤ a ∧ 0 ≤ b ∧ b < 2147483399 ∧ 0 ≤ c ∧ c ≤ n
theorem FeedAt.off {H H' : Hp} {p : Addr} {n : Nat} (h : FeedAt H p n) (e : H' p = H p) : FeedAt H' p n := by
  obtain ⟨a, b, c, h1, r⟩ := h
  exact ⟨a, b, c, e.trans h1, r⟩
theorem FeedAt.mono {H : Hp} {p : Addr} {n m : Nat} (h : FeedAt H p n) (e : n ≤ m) : FeedAt H p m := by
  obtain ⟨a, b, c, h1, h2, h3, h4, h5, h6⟩ := h
  exact ⟨a, b, c, h1, h2, h3, h4, h5, by omega⟩
theorem FeedAt.new {H : Hp} {p q : Addr} {n : Nat} {o : HO} (h : FeedAt H p n) (hq : H q = none) : FeedAt (upd H q o) p n := by
  obtain ⟨a, b, c, h1, r⟩ := h
  exact ⟨a, b, c, by rw [upd_ne (ne_of_none h1 hq)]; exact h1, r⟩
theorem FeedAt.some {H : Hp} {p : Addr} {n : Nat} (h : FeedAt H p n) : ∃ o, H p = some o := by
  obtain ⟨a, b, c, h1, r⟩ := h
  exact ⟨_, h1⟩
def feedTop : Nat := 1000000
/-- a new feed -/
def spFeed (K : PySem.W.Frag) : Sp := fun vs H Q _ => ∃ (a : Addr) (ns : List Int) (k : Int), vs = [.ref a, .int k] ∧ SqL K H a (ns.map V.int) ∧ 0 ≤ k ∧ k < 1000 ∧
  ∀ (p : Addr) (H' : Hp), H p = none → FeedAt H' p 0 → Off p H H' → Q (.ref p) H'
/-- a draw: any number below m -/
def spNext : Sp := fun vs H Q _ => ∃ (p : Addr) (m : Int) (n : Nat), vs = [.ref p, .int m] ∧ FeedAt H p n ∧ n < feedTop ∧ 0 < m ∧ m < 1073741824 ∧
  ∀ (d : Int) (H' : Hp), 0 ≤ d → d < m → FeedAt H' p (n + 1) → Off p H H' → Q (.int d) H'
/-- some letters -/
def spLetters : Sp := fun vs H Q _ => ∃ (p : Addr) (n : Nat), vs = [.ref p] ∧ FeedAt H p n ∧ n + 3 < feedTop ∧
  ∀ (l : List Nat) (H' : Hp), Low l → 2 ≤ l.length → l.length ≤ 26 → FeedAt H' p (n + 3) → Off p H H' → Q (.str (S l)) H'
/-- a word of at most m letters -/
def spWord : Sp := fun vs H Q _ => ∃ (p : Addr) (n : Nat) (l : List Nat) (m : Nat), vs = [.ref p, .str (S l), .int m] ∧ FeedAt H p n ∧ n + 30 < feedTop ∧ Low l ∧ 1 ≤ l.length ∧ l.length ≤ 26 ∧ 1 ≤ m ∧ m ≤ 25 ∧
  ∀ (w : List Nat) (H' : Hp), Low w → 1 ≤ w.length → w.length ≤ m → FeedAt H' p (n + 30) → Kept p H H' → Q (.str (S w)) H'
/-- two that are alike are told so -/
def spAlike (n : Nat) : Sp := fun vs H Q _ => ∃ (u v : V) (d : Dt), vs = [u, v] ∧ Is H u d ∧ Is H v d ∧ dep d < n ∧ wid d ≤ 100000 ∧ ∀ H', Same H H' → Q (.bl true) H'
end L2

set_option Elab.async false
set_option linter.all false
set_option maxRecDepth 100000
namespace L2
open PySem PySem.Spec PyProof.Rows
/-! ### texts: what the operations give -/
theorem slice_S (l : List Nat) (lo hi : Option Int) : Txt.slice (S l) lo hi = S (cutA l lo hi) := slice_raw l lo hi
theorem find_S (l p : List Nat) : Txt.find (S l) (S p) = findL p l 0 := find_raw l p 0
theorem find3_S (l p : List Nat) (k : Nat) : Txt.find3 (S l) (S p) (k : Int) = findL p l k := by
  have e : fromIndex (S l).length (k : Int) = k := by
    unfold fromIndex
    rw [if_neg (by omega)]; omega
  show (match Builtin.Str.occurrences (S l) (S p) (fromIndex (S l).length (k : Int)) (S l).length 1 with | k :: _ => (k : Int) | [] => -1) = _
  rw [e]; exact find_raw l p k
theorem starts3_S (l p : List Nat) (k : Nat) : Txt.startswith3 (S l) (S p) (k : Int) = fits p l k := by
  have e : fromIndex (S l).length (k : Int) = k := by
    unfold fromIndex
    rw [if_neg (by omega)]; omega
  unfold Txt.startswith3
  rw [e, subAt_S, S_length, S_length]; rfl
theorem join_S (sep : List Nat) (ls : List (List Nat)) : Txt.join (S sep) (ls.map S) = S (joinL sep ls) := by
  show Builtin.Str.glued (S sep) (ls.map S) = _
  rw [StrLaws.glued_eq_join, joinS]
theorem mul0 (z : Str) : Txt.mul z 0 = S [] := by
  unfold Txt.mul
  rw [if_pos (by decide)]; rfl
theorem mul1 (z : Str) : Txt.mul z 1 = z := by
  unfold Txt.mul
  rw [if_neg (by decide), if_pos (by rfl)]
theorem contains_S (big : List Nat) (c : Nat) : Txt.contains (S big) (S [c]) = decide (c ∈ big) := has_one big c
theorem chs_S (l : List Nat) : chs (S l) = l.map fun c => V.str (S [c]) := rfl
theorem chs_get {l : List Nat} {i : Nat} (h : i < l.length) : (chs (S l)).getD i .non = V.str (S [l[i]]) := by
  rw [chs_S]; simp [List.getD_eq_getElem?_getD, h]
theorem cut_plain {α : Type} (l : List α) (i j : Nat) (h : j ≤ l.length) (hij : i ≤ j) : cutA l (some (i : Int)) (some (j : Int)) = (l.drop i).take (j - i) := by
  unfold cutA
  have e1 : sx l.length 0 (some (i : Int)) = i := by simp only [sx]; rw [if_neg (by omega)]; omega
  have e2 : sx l.length l.length (some (j : Int)) = j := by simp only [sx]; rw [if_neg (by omega)]; omega
  rw [e1, e2]
theorem cut_from {α : Type} (l : List α) (i : Nat) (h : i ≤ l.length) : cutA l (some (i : Int)) none = l.drop i := by
  unfold cutA
  have e1 : sx l.length 0 (some (i : Int)) = i := by simp only [sx]; rw [if_neg (by omega)]; omega
  rw [e1]
  show (l.drop i).take (l.length - i) = _
  rw [List.take_of_length_le (by simp)]
theorem cutV_eq (xs : List V) (lo hi : Option Int) : cutV xs lo hi = cutA xs lo hi := rfl
theorem Low_cut {l : List Nat} (h : Low l) (lo hi : Option Int) : Low (cutA l lo hi) := fun c hc => h c (List.mem_of_mem_drop (List.mem_of_mem_take hc))
theorem Low_append {a b : List Nat} (ha : Low a) (hb : Low b) : Low (a ++ b) := fun c hc => (List.mem_append.mp hc).elim (ha c) (hb c)
theorem cut_length {α : Type} (l : List α) (lo hi : Option Int) : (cutA l lo hi).length = sx l.length l.length hi - sx l.length 0 lo := by
  have h1 := sx_le l.length l.length (Nat.le_refl _) hi
  unfold cutA
  rw [List.length_take, List.length_drop]
  omega
def LETL : List Nat := [97, 98, 99, 100, 101, 102, 103, 104, 105, 106, 107, 108, 109, 110, 111, 112, 113, 114, 115, 116, 117, 118, 119, 120, 121, 122]
theorem LET_S : LET = S LETL := rfl
theorem low_LETL : Low LETL := by unfold Low; decide
theorem t_let : Str.ofString "abcdefghijklmnopqrstuvwxyz" = S LETL := let_eq
theorem t_empty : Str.ofString "" = S [] := by decide +kernel
theorem t_dash : Str.ofString "-" = S [45] := by decide +kernel
theorem t_dot : Str.ofString "." = S [46] := by decide +kernel
theorem let_in (c : Nat) : Txt.contains (S LETL) (S [c]) = isLow c := let_has c
theorem joined_one (ws : List Nat) : Txt.join (S []) (ws.map fun c => S [c]) = S ws := by
  have e : (ws.map fun c => S [c]) = (ws.map fun c => [c]).map S := by rw [List.map_map]; rfl
  rw [e, join_S, joinL_nil]
  congr 1
  clear e
  induction ws with
  | nil => rfl
  | cons c ws ih => simp only [List.map_cons, List.flatten_cons]; rw [ih]; rfl
theorem sum_one (ws : List Nat) : ((ws.map fun c => S [c]).map (·.length)).sum = ws.length := by
  induction ws with
  | nil => rfl
  | cons c ws ih => simp only [List.map_cons, List.sum_cons, List.length_cons, S_length, List.length_nil]; rw [List.map_map] at ih ⊢; omega
theorem map_one (ws : List Nat) : (ws.map fun c => V.str (S [c])) = (ws.map fun c => S [c]).map V.str := by rw [List.map_map]; rfl
theorem inV_ints (g : Int) (gs : List Int) : inV (.int g) (gs.map V.int) = decide (g ∈ gs) := by
  induction gs with
  | nil => rfl
  | cons x gs ih =>
    show (eqV (.int x) (.int g) || inV (.int g) (gs.map V.int)) = _
    rw [ih]
    show ((x == g) || decide (g ∈ gs)) = _
    by_cases e : x = g
    · subst e; simp
    · have e' : ¬ g = x := fun z => e z.symm
      simp [e, e']
theorem flat_ints (gs : List Int) : (gs.map V.int).all flatV = true := by
  rw [List.all_map, List.all_eq_true]; intro _ _; rfl
theorem inV_bls (bs : List Bool) : inV (.bl false) (bs.map V.bl) = !bs.all id := by
  induction bs with
  | nil => rfl
  | cons x bs ih =>
    show (eqV (.bl x) (.bl false) || inV (.bl false) (bs.map V.bl)) = _
    rw [ih]
    show ((x == false) || _) = _
    cases x <;> simp
theorem flat_bls (bs : List Bool) : (bs.map V.bl).all flatV = true := by
  rw [List.all_map, List.all_eq_true]; intro _ _; rfl
theorem atI_0' {α : Type} {l : List α} {c : α} (h : l[0]? = some c) : atI l 0 = some c := atI_nat (j := 0) h
theorem FeedAt.same {H H' : Hp} {p : Addr} {n : Nat} (h : FeedAt H p n) (k : ∀ b o, H b = Option.some o → H' b = Option.some o) : FeedAt H' p n := by
  obtain ⟨a, b, c, h1, r⟩ := h
  exact ⟨a, b, c, k _ _ h1, r⟩
theorem Kept.same {p : Addr} {H H1 H2 : Hp} (a : Kept p H H1) (b : ∀ c o, H1 c = some o → H2 c = some o) : Kept p H H2 := fun c o hc e => b c o (a c o hc e)
theorem Kept.off {p : Addr} {H H1 H2 : Hp} (a : Kept p H H1) (b : Off p H1 H2) : Kept p H H2 := fun c o hc e => (b c hc).trans (a c o hc e)
/-! ### patterns, as data -/
theorem i_ixC {K : PySem.W.Frag} {H : Hp} {Q : VK} {l : List Nat} {i : Int} {c : Nat} (hz : l.length ≤ 1000000) (h2 : atI l i = some c) (h : Q (.str (S [c])) H) : fIx K (.str (S l)) (.int i) H Q := i_ixS (szn (by rw [S_length]; exact hz)) h2 h
theorem i_addC {H : Hp} {Q : VK} {a b : List Nat} (hz : a.length + b.length ≤ 1000000) (h : Q (.str (S (a ++ b))) H) : fAdd (.str (S a)) (.str (S b)) H Q := i_addS (szn (by rw [S_length, S_length]; exact hz)) (by rw [S_append]; exact h)
theorem i_slC {K : PySem.W.Frag} {H : Hp} {Q : VK} {l : List Nat} {lo hi : Option Int} (hz : l.length ≤ 1000000) (h : Q (.str (S (cutA l lo hi))) H) : fSl K (.str (S l)) lo hi H Q := i_slS (szn (by rw [S_length]; exact hz)) (by rw [slice_S]; exact h)
theorem i_lenC {K : PySem.W.Frag} {H : Hp} {Q : VK} {l : List Nat} (hz : l.length ≤ 1000000) (h : Q (.int (l.length : Int)) H) : fLen K [.str (S l)] H Q := i_lenS (szn (by rw [S_length]; exact hz)) (by rw [S_length]; exact h)
theorem i_lenM {K : PySem.W.Frag} {H : Hp} {Q : VK} {p : Addr} {xs : List V} {n : Nat} (h1 : H p = some (.lst xs)) (e : xs.length = n) (h : Q (.int (n : Int)) H) : fLen K [.ref p] H Q := i_lenR (seqR_lst h1) (by rw [e]; exact h)
theorem i_lenT {K : PySem.W.Frag} {H : Hp} {Q : VK} {p : Addr} {xs : List V} {n : Nat} (h1 : H p = some (.tup xs)) (e : xs.length = n) (h : Q (.int (n : Int)) H) : fLen K [.ref p] H Q := i_lenR (seqR_tup h1) (by rw [e]; exact h)
theorem i_mulZ {H : Hp} {Q : VK} {a : Addr} {x : V} {k : Int} (h1 : H a = some (.lst [x])) (c : 0 ≤ k ∧ k ≤ 1000000) (h : ∀ p, H p = none → Q (.ref p) (upd H p (.lst (List.replicate k.toNat x)))) : fMul (.ref a) (.int k) H Q := by
  refine i_mulL h1 ⟨by omega, by omega, by simp; omega⟩ fun p hp => ?_
  have e : (List.replicate k.toNat [x]).flatten = List.replicate k.toNat x := by
    generalize k.toNat = m
    induction m with
    | zero => rfl
    | succ m ih => rw [List.replicate_succ, List.flatten_cons, ih]; rfl
  rw [e]; exact h p hp
theorem cutA_map {α β : Type} (g : α → β) (l : List α) (lo hi : Option Int) : cutA (l.map g) lo hi = (cutA l lo hi).map g := by
  unfold cutA
  rw [List.length_map, List.map_take, List.map_drop]
def patD (x : List Nat × List Int) : Dt := .tup [.str (S x.1), .tup (x.2.map Dt.int)]
def patsD (xs : List (List Nat × List Int)) : Dt := .lst (xs.map patD)
/-- a pattern as they are made here -/
structure GP (x : List Nat × List Int) : Prop where
  ne : 1 ≤ x.1.length
  le : x.1.length ≤ 22
  len : x.2.length = x.1.length + 1
  num : ∀ v ∈ x.2, 0 ≤ v ∧ v ≤ 9
  cs : ∀ c ∈ x.1, c < 128
theorem IsL_intsD {H : Hp} : ∀ {g : List Int} {xs : List V}, L2.IsL H xs (g.map Dt.int) → xs = g.map V.int
  | [], [], _ => rfl
  | [], _ :: _, h => by simp only [List.map_nil, L2.IsL] at h
  | _ :: _, [], h => by simp only [List.map_cons, L2.IsL] at h
  | k :: g, x :: xs, h => by
    simp only [List.map_cons, L2.IsL, Is] at h
    rw [h.1, IsL_intsD h.2]; rfl
theorem isPat {H : Hp} {v : V} {x : List Nat × List Int} (h : Is H v (patD x)) : ∃ a t, v = .ref a ∧ H a = some (.tup [.str (S x.1), .ref t]) ∧ H t = some (.tup (x.2.map V.int)) := by
  simp only [Is, patD] at h
  obtain ⟨a, xs, rfl, ha, hxs⟩ := h
  match xs, hxs with
  | [], h => simp only [L2.IsL] at h
  | [_], h => simp only [L2.IsL] at h; exact h.2.elim
  | _ :: _ :: _ :: _, h => simp only [L2.IsL] at h; exact h.2.2.elim
  | [y, z], h =>
    simp only [L2.IsL, Is] at h
    obtain ⟨rfl, ⟨t, ys, rfl, ht, hys⟩, _⟩ := h
    have := IsL_intsD hys
    subst this
    exact ⟨a, t, rfl, ha, ht⟩
theorem isPat_mk {H : Hp} {a t : Addr} {x : List Nat × List Int} (h1 : H a = some (.tup [.str (S x.1), .ref t])) (h2 : H t = some (.tup (x.2.map V.int))) : Is H (.ref a) (patD x) := by
  simp only [Is, patD, L2.IsL]
  exact ⟨a, _, rfl, h1, rfl, ⟨t, _, rfl, h2, IsL.ints _ _⟩, trivial⟩
theorem isPats {H : Hp} {v : V} {xs : List (List Nat × List Int)} (h : Is H v (patsD xs)) : ∃ a ys, v = .ref a ∧ H a = some (.lst ys) ∧ L2.IsL H ys (xs.map patD) := by
  simp only [Is, patsD] at h
  exact h
theorem IsL.append {H : Hp} : ∀ {ds es : List Dt} {xs ys : List V}, L2.IsL H xs ds → L2.IsL H ys es → L2.IsL H (xs ++ ys) (ds ++ es)
  | [], _, [], _, _, h => h
  | d :: ds, es, x :: xs, ys, h, k => by
    simp only [L2.IsL] at h
    simp only [List.cons_append, L2.IsL]
    exact ⟨h.1, IsL.append h.2 k⟩
  | [], _, _ :: _, _, h, _ => by simp only [L2.IsL] at h
  | _ :: _, _, [], _, h, _ => by simp only [L2.IsL] at h
theorem head_dot {s : List Nat} : (cutA s none (some 1) = [46]) ↔ s.head? = some 46 := by
  cases s with
  | nil => simp [cutA, sx]
  | cons c s =>
    have e : cutA (c :: s) none (some 1) = [c] := by
      unfold cutA
      have e2 : sx (c :: s).length (c :: s).length (some 1) = 1 := by simp only [sx]; rw [if_neg (by decide)]; simp
      rw [e2]; rfl
    rw [e]; simp
theorem last_dot {s : List Nat} : (cutA s (some (-1)) none = [46]) ↔ s.getLast? = some 46 := by
  cases h : s.getLast? with
  | none =>
    have : s = [] := by simpa using h
    subst this
    simp [cutA, sx]
  | some c =>
    obtain ⟨r, rfl⟩ := List.getLast?_eq_some_iff.mp h
    have e : cutA (r ++ [c]) (some (-1)) none = [c] := by
      unfold cutA
      have e1 : sx (r ++ [c]).length 0 (some (-1)) = r.length := by simp only [sx]; rw [if_pos (by decide)]; simp; omega
      have e2 : sx (r ++ [c]).length (r ++ [c]).length none = r.length + 1 := by simp [sx]
      rw [e1, e2]; simp
    rw [e]; simp
/-- is it a word -/
def isWord (l : List Nat) : Bool := decide (0 < l.length) && l.all isLow
end L2

set_option Elab.async false
set_option linter.all false
set_option maxRecDepth 100000
namespace L2
open PySem PySem.Spec PyProof.Rows
/-! ### list.extend by a list -/
def fExtend : V → List V → Hp → VK → Prop := fun x vs H Q => match x, vs with
  | .ref l, [.ref b] => (match H l, H b with | some (.lst xs), some (.lst zs) => xs.length + zs.length ≤ sizeLine ∧ Q .non (upd H l (.lst (xs ++ zs))) | _, _ => False)
  | _, _ => False
theorem m_extend1 {X : Cx} : MtR X "list.extend" fExtend := fun pins s σ H x xs v us Q I rx rs h => by
  unfold fExtend at h
  split at h
  · split at h
    · rename_i e e2
      exact mt_extend pins s σ H _ _ v us Q I rx rs ⟨_, _, _, _, rfl, rfl, e, e2, h.1, h.2⟩
    · exact h.elim
  · exact h.elim
theorem i_extL {H : Hp} {Q : VK} {l b : Addr} {xs zs : List V} (h1 : H l = some (.lst xs)) (h2 : H b = some (.lst zs)) (c : xs.length + zs.length ≤ sizeLine) (h : Q .non (upd H l (.lst (xs ++ zs)))) : fExtend (.ref l) [.ref b] H Q := by
  show (match H l, H b with | some (.lst xs), some (.lst zs) => xs.length + zs.length ≤ sizeLine ∧ Q .non (upd H l (.lst (xs ++ zs))) | _, _ => False)
  rw [h1, h2]; exact ⟨c, h⟩
/-! ### data of tuples alone: they stay whatever is stored -/
mutual
def tOnly : Dt → Bool
  | .lst _ => false
  | .tup ds => tOnlyL ds
  | _ => true
def tOnlyL : List Dt → Bool
  | [] => true
  | d :: ds => tOnly d && tOnlyL ds
end
def Tk (H H' : Hp) : Prop := ∀ b xs, H b = some (.tup xs) → H' b = some (.tup xs)
theorem Tk.refl (H : Hp) : Tk H H := fun _ _ h => h
theorem Tk.trans {H H1 H2 : Hp} (a : Tk H H1) (b : Tk H1 H2) : Tk H H2 := fun c o h => b c o (a c o h)
theorem Same.tk {H H' : Hp} (h : Same H H') : Tk H H' := fun b xs e => h b _ e
theorem Tk.new {H : Hp} {p : Addr} (h : H p = none) (o : HO) : Tk H (upd H p o) := (same_new h o).tk
theorem Tk.lst {H : Hp} {p : Addr} {zs : List V} (h : H p = some (.lst zs)) (o : HO) : Tk H (upd H p o) := fun b xs e => by
  rw [upd_ne (ne_of e h (by intro z; cases z))]; exact e
mutual
theorem Is.tk {H H' : Hp} (h : Tk H H') : ∀ {d : Dt} {v : V}, tOnly d = true → Is H v d → Is H' v d
  | .non, _, _, k => by simp only [Is] at k ⊢; exact k
  | .bl _, _, _, k => by simp only [Is] at k ⊢; exact k
  | .int _, _, _, k => by simp only [Is] at k ⊢; exact k
  | .str _, _, _, k => by simp only [Is] at k ⊢; exact k
  | .tup ds, _, t, k => by
    simp only [tOnly] at t
    simp only [Is] at k ⊢
    obtain ⟨a, xs, e, h1, h2⟩ := k
    exact ⟨a, xs, e, h _ _ h1, IsL.tk h t h2⟩
  | .lst ds, _, t, _ => by simp only [tOnly] at t; cases t
theorem IsL.tk {H H' : Hp} (h : Tk H H') : ∀ {ds : List Dt} {xs : List V}, tOnlyL ds = true → IsL H xs ds → IsL H' xs ds
  | [], [], _, _ => by simp only [IsL]
  | [], _ :: _, _, k => by simp only [IsL] at k
  | _ :: _, [], _, k => by simp only [IsL] at k
  | d :: ds, x :: xs, t, k => by
    simp only [tOnlyL, Bool.and_eq_true] at t
    simp only [IsL] at k ⊢
    exact ⟨Is.tk h t.1 k.1, IsL.tk h t.2 k.2⟩
end
theorem tOnlyL_of : ∀ {ds : List Dt}, (∀ d ∈ ds, tOnly d = true) → tOnlyL ds = true
  | [], _ => rfl
  | d :: ds, h => by simp only [tOnlyL, Bool.and_eq_true]; exact ⟨h d List.mem_cons_self, tOnlyL_of fun e he => h e (List.mem_cons_of_mem _ he)⟩
theorem tOnlyL_ints (ns : List Int) : tOnlyL (ns.map Dt.int) = true := tOnlyL_of fun d hd => by
  obtain ⟨n, _, rfl⟩ := List.mem_map.mp hd; rfl
theorem tOnly_pat (x : List Nat × List Int) : tOnly (patD x) = true := by simp only [patD, tOnly, tOnlyL, tOnlyL_ints, Bool.and_true]
theorem tOnly_pats (xs : List (List Nat × List Int)) : tOnlyL (xs.map patD) = true := tOnlyL_of fun d hd => by
  obtain ⟨n, _, rfl⟩ := List.mem_map.mp hd; exact tOnly_pat n
theorem IsL.snoc {H : Hp} {ds : List Dt} {d : Dt} {xs : List V} {x : V} (h : IsL H xs ds) (k : Is H x d) : IsL H (xs ++ [x]) (ds ++ [d]) :=
  IsL.append h (by simp only [IsL]; exact ⟨k, trivial⟩)
/-! ### fits: (begin, numbers) -/
abbrev Fit := Nat × List Int
def fitD (x : Fit) : Dt := .tup [.int (x.1 : Int), .tup (x.2.map Dt.int)]
def fitsD (xs : List Fit) : Dt := .lst (xs.map fitD)
theorem tOnly_fits (xs : List Fit) : tOnlyL (xs.map fitD) = true := tOnlyL_of fun d hd => by
  obtain ⟨n, _, rfl⟩ := List.mem_map.mp hd; simp only [fitD, tOnly, tOnlyL, tOnlyL_ints, Bool.and_true]
theorem isFit {H : Hp} {v : V} {x : Fit} (h : Is H v (fitD x)) : ∃ a t, v = .ref a ∧ H a = some (.tup [.int (x.1 : Int), .ref t]) ∧ H t = some (.tup (x.2.map V.int)) := by
  simp only [Is, fitD] at h
  obtain ⟨a, xs, rfl, ha, hxs⟩ := h
  match xs, hxs with
  | [], h => simp only [L2.IsL] at h
  | [_], h => simp only [L2.IsL] at h; exact h.2.elim
  | _ :: _ :: _ :: _, h => simp only [L2.IsL] at h; exact h.2.2.elim
  | [y, z], h =>
    simp only [L2.IsL, Is] at h
    obtain ⟨rfl, ⟨t, ys, rfl, ht, hys⟩, _⟩ := h
    have := IsL_intsD hys
    subst this
    exact ⟨a, t, rfl, ha, ht⟩
theorem isFit_mk {H : Hp} {a t : Addr} {x : Fit} (h1 : H a = some (.tup [.int (x.1 : Int), .ref t])) (h2 : H t = some (.tup (x.2.map V.int))) : Is H (.ref a) (fitD x) := by
  simp only [Is, fitD, L2.IsL]
  exact ⟨a, _, rfl, h1, rfl, ⟨t, _, rfl, h2, IsL.ints _ _⟩, trivial⟩
theorem isFits {H : Hp} {v : V} {xs : List Fit} (h : Is H v (fitsD xs)) : ∃ a ys, v = .ref a ∧ H a = some (.lst ys) ∧ L2.IsL H ys (xs.map fitD) := by
  simp only [Is, fitsD] at h
  exact h
def layF (t : List Int) (xs : List Fit) : List Int := xs.foldl (fun t x => laid t x.1 x.2) t
theorem layF_length : ∀ (xs : List Fit) (t : List Int), (layF t xs).length = t.length
  | [], _ => rfl
  | x :: xs, t => by show (layF (laid t x.1 x.2) xs).length = _; rw [layF_length xs, laid_length]
theorem layF_append (t : List Int) (xs ys : List Fit) : layF t (xs ++ ys) = layF (layF t xs) ys := List.foldl_append
theorem layF_take {xs : List Fit} {i : Nat} (h : i < xs.length) (t : List Int) : layF t (xs.take (i + 1)) = laid (layF t (xs.take i)) xs[i].1 xs[i].2 := by
  rw [List.take_succ, List.getElem?_eq_getElem h, layF_append]; rfl
/-- the fits of one pattern, of a list -/
def fitsP (f : List Nat) (x : Pat) : List Fit := (places x.1 f).map fun b => (b, x.2)
def fitsOf (f : List Nat) (xs : List Pat) : List Fit := xs.flatMap (fitsP f)
theorem fitsOf_take {f : List Nat} {xs : List Pat} {i : Nat} (h : i < xs.length) : fitsOf f (xs.take (i + 1)) = fitsOf f (xs.take i) ++ fitsP f xs[i] := by
  unfold fitsOf; rw [List.take_succ, List.getElem?_eq_getElem h, List.flatMap_append]; simp
theorem layF_fitsP (f : List Nat) (x : Pat) (t : List Int) : layF t (fitsP f x) = tellP f t x := by
  unfold layF fitsP tellP; rw [List.foldl_map]
theorem layF_fitsOf (f : List Nat) : ∀ (xs : List Pat) (t : List Int), layF t (fitsOf f xs) = tellA f t xs
  | [], _ => rfl
  | x :: xs, t => by
    show layF t (fitsP f x ++ fitsOf f xs) = tellA f (tellP f t x) xs
    rw [layF_append, layF_fitsP, layF_fitsOf f xs]
theorem places_le (p f : List Nat) : (places p f).length ≤ f.length := by
  unfold places; exact Nat.le_trans (List.length_filter_le _ _) (by simp)
theorem fitsOf_len (f : List Nat) : ∀ (xs : List Pat), (fitsOf f xs).length ≤ xs.length * f.length
  | [] => by simp [fitsOf]
  | x :: xs => by
    show (fitsP f x ++ fitsOf f xs).length ≤ _
    have h1 := fitsOf_len f xs
    have h2 := places_le x.1 f
    have h3 : (fitsP f x).length = (places x.1 f).length := by simp [fitsP]
    rw [List.length_append, List.length_cons, Nat.add_mul]; omega
theorem fitsOf_mem {f : List Nat} {xs : List Pat} {y : Fit} (h : y ∈ fitsOf f xs) : ∃ x ∈ xs, y.1 ∈ places x.1 f ∧ y.2 = x.2 := by
  obtain ⟨x, hx, hy⟩ := List.mem_flatMap.mp h
  obtain ⟨b, hb, rfl⟩ := List.mem_map.mp hy
  exact ⟨x, hx, hb, rfl⟩
end L2

set_option Elab.async false
set_option linter.all false
set_option maxRecDepth 100000
namespace L2
open PySem
open Sem (wp)
/-! zip of two iterators whose items are known -/
structure ZA (z TI TO i1 i2 : Addr) (f1 f2 : List Addr) : Prop where
  TIz : TI ≠ z
  TOz : TO ≠ z
  i1z : i1 ≠ z
  i2z : i2 ≠ z
  TITO : TI ≠ TO
  TIi1 : TI ≠ i1
  TIi2 : TI ≠ i2
  TOi1 : TO ≠ i1
  TOi2 : TO ≠ i2
  i12 : i1 ≠ i2
  zf1 : z ∉ f1
  zf2 : z ∉ f2
  of1 : TO ∉ f1
  of2 : TO ∉ f2
  i1f2 : i1 ∉ f2
  i2f1 : i2 ∉ f1
theorem Draws.still {P : Program} {w : World} {A : Around} {it c : Addr} {fp : List Addr} {n i : Nat} {Pv : Nat → Value → Prop} {St : Nat → Heap → Prop} {h h' : Heap} (D : Draws P w A it fp n Pv St) (st : St i h) (k : Heap.ExtBut c h h') (hc : c ∉ fp) : St i h' :=
  D.frame _ _ _ st fun b hb o e => k b o (fun z => hc (z ▸ hb)) e
section
variable {prog : Program} {w : World} {A : Around} {E : Value → Shared → Prop} {s : Shared}
theorem zip_itemD {z TI TO i1 i2 : Addr} {f1 f2 : List Addr} {n1 n2 k1 k2 : Nat} {P1 P2 : Nat → Value → Prop} {S1 S2 : Nat → Heap → Prop} {a b : Value} {Q : Value → Shared → Prop}
    (D1 : Draws prog w A i1 f1 n1 P1 S1) (D2 : Draws prog w A i2 f2 n2 P2 S2) (Z : ZA z TI TO i1 i2 f1 f2)
    (hz : IsZip s.heap z TI TO .none) (hTI : IsPair s.heap TI (.ref i1) (.ref i2)) (hTO : IsPair s.heap TO a b) (h1 : S1 k1 s.heap) (h2 : S2 k2 s.heap) (l1 : k1 < n1) (l2 : k2 < n2)
    (hQ : ∀ x y h' tk, P1 k1 x → P2 k2 y → IsZip h' z TI TO (rawInt s.heap.objs.size) → IsPair h' TO x y → S1 (k1 + 1) h' → S2 (k2 + 1) h' → IsPair h' s.heap.objs.size x y →
      (∀ c o, c ≠ z → c ≠ TO → c ≠ i1 → c ≠ i2 → s.heap.get? c = some o → h'.get? c = some o) → Q (.ref s.heap.objs.size) { s with heap := h', toks := tk }) :
    wpAny (model prog w) A (Builtin.«zip.__next__» ⟨[.ref z], []⟩) (fun fin s' => ∃ v, fin = .done (.ret v) ∧ Q v s') E s := by
  show wpAny _ _ (field (.ref z) 2 >>= _) _ _ _
  refine wpAny_bind (wpAny_field hz rfl (x := .bool false) rfl ?_)
  show wpAny _ _ (field (.ref z) 3 >>= _) _ _ _
  refine wpAny_bind (wpAny_field hz rfl (x := .ref TI) rfl (wpAny_bind (wpAny_seqItems hTI rfl ?_)))
  show wpAny _ _ (Builtin.SmallTypes.ownedTupleIsFree (.ref z) >>= _) _ _ _
  refine wpAny_bind ?_
  unfold Builtin.SmallTypes.ownedTupleIsFree
  refine wpAny_bind (wpAny_field hz rfl (x := .none) rfl (wpAny_pure ?_))
  simp only [if_true]
  refine wpAny_bind (wpAny_rule (wpAny_bind (wpAny_field hz rfl (x := .ref TO) rfl (wpAny_bind (wpAny_setField_rec hz (by simp) fun g1 zg1 b1 => ?_)))))
  have zg1' : IsZip g1 z TI TO .ellipsis := zg1
  refine wpAny_bind ?_
  simp only [List.zipIdx_cons, List.zipIdx_nil, List.forIn_cons, List.forIn_nil]
  refine wpAny_bind (wpAny_bind (wpAny_onRaise ?_))
  show wpAny _ _ (Builtin.SmallTypes.nextOf (.ref i1) >>= _) _ _ _
  refine wpAny_bind (D1.item k1 _ _ _ l1 (Draws.still D1 h1 b1.extBut Z.zf1) fun x g2 tk1 hx h1' b2 => wpAny_pure ?_)
  have to2 : IsPair g2 TO a b := b2.extBut _ _ Z.TOi1 (b1.extBut _ _ Z.TOz hTO)
  refine wpAny_bind (wpAny_seqItems to2 rfl (wpAny_bind (wpAny_updateSeq_pair to2 fun g3 to3 b3 => ?_)))
  have to3' : IsPair g3 TO x b := to3
  refine wpAny_bind (wpAny_letGo (wpAny_pure ?_))
  refine wpAny_bind (wpAny_bind (wpAny_onRaise ?_))
  show wpAny _ _ (Builtin.SmallTypes.nextOf (.ref i2) >>= _) _ _ _
  refine wpAny_bind (D2.item k2 _ _ _ l2 (Draws.still D2 (Draws.still D2 (Draws.still D2 h2 b1.extBut Z.zf2) b2.extBut Z.i1f2) b3.extBut Z.of2) fun y g4 tk2 hy h2' b4 => wpAny_pure ?_)
  have to4 : IsPair g4 TO x b := b4.extBut _ _ Z.TOi2 to3'
  refine wpAny_bind (wpAny_seqItems to4 rfl (wpAny_bind (wpAny_updateSeq_pair to4 fun g5 to5 b5 => ?_)))
  have to5' : IsPair g5 TO x y := to5
  refine wpAny_bind (wpAny_letGo (wpAny_pure (wpAny_pure ?_)))
  refine wpAny_bind (wpAny_seqItems to5' rfl (wpAny_bind (wpAny_newTuple ?_)))
  have sz : g5.objs.size = s.heap.objs.size := by rw [b5.1, b4.1, b3.1, b2.1, b1.1]
  have zg5 : IsZip g5 z TI TO .ellipsis := b5.extBut _ _ Z.TOz.symm (b4.extBut _ _ Z.i2z.symm (b3.extBut _ _ Z.TOz.symm (b2.extBut _ _ Z.i1z.symm zg1')))
  have kp : ∀ c o, c ≠ z → c ≠ TO → c ≠ i1 → c ≠ i2 → s.heap.get? c = some o → g5.get? c = some o := fun c o c1 c2 c3 c4 e =>
    b5.extBut _ _ c2 (b4.extBut _ _ c4 (b3.extBut _ _ c2 (b2.extBut _ _ c3 (b1.extBut _ _ c1 e))))
  have s1 : S1 (k1 + 1) g5 := Draws.still D1 (Draws.still D1 (Draws.still D1 h1' b3.extBut Z.of1) b4.extBut Z.i2f1) b5.extBut Z.of1
  have s2 : S2 (k2 + 1) g5 := Draws.still D2 h2' b5.extBut Z.of2
  have zlt : z < g5.objs.size := Heap.lt_size zg5
  show wpAny _ _ (Builtin.SmallTypes.ownedTupleHandOut (.ref z) (.ref g5.objs.size) >>= _) _ _ _
  refine wpAny_bind ?_
  unfold Builtin.SmallTypes.ownedTupleHandOut
  have zg6 : IsZip (g5.push { cls := .type "tuple", data := .seq #[x, y] }) z TI TO .ellipsis := Heap.get?_push_of_some _ zg5
  refine wpAny_bind (wpAny_setField_rec zg6 (by simp) fun g7 zg7 b7 => ?_)
  have zg7' : IsZip g7 z TI TO (rawInt g5.objs.size) := zg7
  refine wpAny_setField_rec zg7' (by simp) fun g8 zg8 b8 => ?_
  have zg8' : IsZip g8 z TI TO (rawInt g5.objs.size) := zg8
  have up : ∀ c o, c ≠ z → g5.get? c = some o → g8.get? c = some o := fun c o c1 e => b8.extBut _ _ c1 (b7.extBut _ _ c1 (Heap.get?_push_of_some _ e))
  have tp : IsPair g8 g5.objs.size x y := b8.extBut _ _ (Nat.ne_of_gt zlt) (b7.extBut _ _ (Nat.ne_of_gt zlt) (Heap.get?_push_size _ rfl))
  rw [sz] at zg8' tp
  refine wpAny_pure ⟨_, rfl, ?_⟩
  show Q (.ref g5.objs.size) _
  rw [sz]
  exact hQ x y g8 _ hx hy zg8' (up _ _ Z.TOz to5') (D1.frame _ _ _ s1 fun c hc o e => up c o (fun q => Z.zf1 (q ▸ hc)) e) (D2.frame _ _ _ s2 fun c hc o e => up c o (fun q => Z.zf2 (q ▸ hc)) e) tp fun c o c1 c2 c3 c4 e => up c o c1 (kp c o c1 c2 c3 c4 e)
theorem zip_endD {z TI TO i1 i2 : Addr} {f1 f2 : List Addr} {n1 n2 k : Nat} {P1 P2 : Nat → Value → Prop} {S1 S2 : Nat → Heap → Prop} {a b : Value} {Q : Fin → Shared → Prop}
    (D1 : Draws prog w A i1 f1 n1 P1 S1) (D2 : Draws prog w A i2 f2 n2 P2 S2) (Z : ZA z TI TO i1 i2 f1 f2)
    (hz : IsZip s.heap z TI TO .none) (hTI : IsPair s.heap TI (.ref i1) (.ref i2)) (hTO : IsPair s.heap TO a b) (h1 : S1 k s.heap) (h2 : S2 k s.heap) (hk : k = min n1 n2)
    (hE : ∀ h' e tk, (∀ c o, c ≠ z → c ≠ TO → c ≠ i1 → c ≠ i2 → s.heap.get? c = some o → h'.get? c = some o) → (∃ o, h'.get? e = some o ∧ o.cls = .type "StopIteration") → E (.ref e) { s with heap := h', toks := tk }) :
    wpAny (model prog w) A (Builtin.«zip.__next__» ⟨[.ref z], []⟩) Q E s := by
  show wpAny _ _ (field (.ref z) 2 >>= _) _ _ _
  refine wpAny_bind (wpAny_field hz rfl (x := .bool false) rfl ?_)
  show wpAny _ _ (field (.ref z) 3 >>= _) _ _ _
  refine wpAny_bind (wpAny_field hz rfl (x := .ref TI) rfl (wpAny_bind (wpAny_seqItems hTI rfl ?_)))
  show wpAny _ _ (Builtin.SmallTypes.ownedTupleIsFree (.ref z) >>= _) _ _ _
  refine wpAny_bind ?_
  unfold Builtin.SmallTypes.ownedTupleIsFree
  refine wpAny_bind (wpAny_field hz rfl (x := .none) rfl (wpAny_pure ?_))
  simp only [if_true]
  refine wpAny_bind (wpAny_rule (wpAny_bind (wpAny_field hz rfl (x := .ref TO) rfl (wpAny_bind (wpAny_setField_rec hz (by simp) fun g1 zg1 b1 => ?_)))))
  have zg1' : IsZip g1 z TI TO .ellipsis := zg1
  refine wpAny_bind ?_
  simp only [List.zipIdx_cons, List.zipIdx_nil, List.forIn_cons, List.forIn_nil]
  refine wpAny_bind (wpAny_bind (wpAny_onRaise ?_))
  show wpAny _ _ (Builtin.SmallTypes.nextOf (.ref i1) >>= _) _ _ _
  have h1g := Draws.still D1 h1 b1.extBut Z.zf1
  by_cases c : n1 ≤ n2
  · have e : k = n1 := by omega
    subst e
    refine wpAny_bind (D1.done _ _ _ h1g fun g2 e b2 he => ?_)
    obtain ⟨oe, hoe, hce⟩ := he
    have zg2 : IsZip g2 z TI TO .ellipsis := b2 _ _ Z.i1z.symm zg1'
    have hez : e ≠ z := fun x => by subst x; rw [zg2] at hoe; cases hoe; simp at hce
    exact wpAny_setField_rec zg2 (by simp) fun g3 _ b3 => hE g3 e _ (fun c o c1 _ c3 _ x => b3.extBut _ _ c1 (b2 _ _ c3 (b1.extBut _ _ c1 x))) ⟨oe, b3.extBut _ _ hez hoe, hce⟩
  · have e : k = n2 := by omega
    subst e
    refine wpAny_bind (D1.item k _ _ _ (by omega) h1g fun x g2 tk1 hx h1' b2 => wpAny_pure ?_)
    have to2 : IsPair g2 TO a b := b2.extBut _ _ Z.TOi1 (b1.extBut _ _ Z.TOz hTO)
    refine wpAny_bind (wpAny_seqItems to2 rfl (wpAny_bind (wpAny_updateSeq_pair to2 fun g3 to3 b3 => ?_)))
    refine wpAny_bind (wpAny_letGo (wpAny_pure ?_))
    refine wpAny_bind (wpAny_bind (wpAny_onRaise ?_))
    show wpAny _ _ (Builtin.SmallTypes.nextOf (.ref i2) >>= _) _ _ _
    refine wpAny_bind (D2.done _ _ _ (Draws.still D2 (Draws.still D2 (Draws.still D2 h2 b1.extBut Z.zf2) b2.extBut Z.i1f2) b3.extBut Z.of2) fun g4 e b4 he => ?_)
    obtain ⟨oe, hoe, hce⟩ := he
    have zg4 : IsZip g4 z TI TO .ellipsis := b4 _ _ Z.i2z.symm (b3.extBut _ _ Z.TOz.symm (b2.extBut _ _ Z.i1z.symm zg1'))
    have hez : e ≠ z := fun x => by subst x; rw [zg4] at hoe; cases hoe; simp at hce
    exact wpAny_setField_rec zg4 (by simp) fun g5 _ b5 => hE g5 e _ (fun c o c1 c2 c3 c4 x => b5.extBut _ _ c1 (b4 _ _ c4 (b3.extBut _ _ c2 (b2.extBut _ _ c3 (b1.extBut _ _ c1 x))))) ⟨oe, b5.extBut _ _ hez hoe, hce⟩
end
theorem walk_zip {prog : Program} {w : World} {A : Around} {z TI TO i1 i2 : Addr} {f1 f2 : List Addr} {n1 n2 : Nat} {P1 P2 : Nat → Value → Prop} {S1 S2 : Nat → Heap → Prop}
    (D1 : Draws prog w A.in1 i1 f1 n1 P1 S1) (D2 : Draws prog w A.in1 i2 f2 n2 P2 S2) (Z : ZA z TI TO i1 i2 f1 f2) (m1 : i1 ∈ f1) (m2 : i2 ∈ f2) :
    WalksT prog w A z (z :: TI :: TO :: (f1 ++ f2)) [z, TO, i1, i2] (min n1 n2)
      (fun i vals => ∃ x y, P1 i x ∧ P2 i y ∧ vals = #[x, y])
      (fun i h => IsZip h z TI TO .none ∧ IsPair h TI (.ref i1) (.ref i2) ∧ (∃ a b, IsPair h TO a b) ∧ S1 i h ∧ S2 i h)
      (fun i T h => IsZip h z TI TO (rawInt T) ∧ IsPair h TI (.ref i1) (.ref i2) ∧ (∃ a b, IsPair h TO a b) ∧ S1 (i + 1) h ∧ S2 (i + 1) h ∧ T ≠ z ∧ T ≠ TO ∧ T ≠ i1 ∧ T ≠ i2) where
  sub := fun c hc => by
    simp only [List.mem_cons, List.not_mem_nil, or_false] at hc
    rcases hc with rfl | rfl | rfl | rfl
    · simp
    · simp
    · simp [m1]
    · simp [m2]
  frame := fun i h h' st k => by
    obtain ⟨a1, a2, ⟨a, b, a3⟩, a4, a5⟩ := st
    exact ⟨k z (by simp) _ a1, k TI (by simp) _ a2, ⟨a, b, k TO (by simp) _ a3⟩, D1.frame _ _ _ a4 fun c hc o e => k c (by simp [hc]) o e, D2.frame _ _ _ a5 fun c hc o e => k c (by simp [hc]) o e⟩
  item := fun i s Q E hi st hQ => by
    obtain ⟨a1, a2, ⟨a, b, a3⟩, a4, a5⟩ := st
    have hT : s.TypeIs (.ref z) "zip" := ⟨_, a1, rfl⟩
    have lt : ∀ {c o}, s.heap.get? c = some o → s.heap.objs.size ≠ c := fun e => Nat.ne_of_gt (Heap.lt_size e)
    unfold pyNext
    refine wpAny_bind (wpAny_attempt (wpAny_callSpecial?_slot (name := Str.ofString "__next__") hT F.slot_zip_next (wpAny_call_entry F.slot_zip_next hT F.entry_zip_next
      (zip_itemD D1 D2 Z a1 a2 a3 a4 a5 (by omega) (by omega) fun x y h' tk hx hy c1 c2 c3 c4 c5 hk => wpAny_pure ?_) (F.args_zip_next_1 _))))
    exact hQ s.heap.objs.size #[x, y] h' tk ⟨x, y, hx, hy, rfl⟩ (Nat.le_refl _) ⟨_, c5, rfl, _, rfl⟩
      ⟨c1, hk _ _ Z.TIz Z.TITO Z.TIi1 Z.TIi2 a2, ⟨_, _, c2⟩, c3, c4, lt a1, lt a3, (by obtain ⟨_, e⟩ := D1.live _ _ a4; exact lt e), (by obtain ⟨_, e⟩ := D2.live _ _ a5; exact lt e)⟩
      fun c o hc e => hk c o (fun q => hc (by simp [q])) (fun q => hc (by simp [q])) (fun q => hc (by simp [q])) (fun q => hc (by simp [q])) e
  go := fun elts k pos i T s Q E hm hQ => by
    obtain ⟨a1, a2, ⟨a, b, a3⟩, a4, a5, _⟩ := hm
    exact wpAny_letOwnedTupleGo_zip a1 fun h' z' b' => hQ h' ⟨z', b'.extBut _ _ Z.TIz a2, ⟨a, b, b'.extBut _ _ Z.TOz a3⟩, Draws.still D1 a4 b'.extBut Z.zf1, Draws.still D2 a5 b'.extBut Z.zf2⟩
      fun c o hc e => b'.extBut _ _ (fun q => hc (by simp [q])) e
  apart := fun i T h hm hT => by
    obtain ⟨_, _, _, _, _, t1, t2, t3, t4⟩ := hm
    simp only [List.mem_cons, List.not_mem_nil, or_false] at hT
    rcases hT with q | q | q | q
    · exact t1 q
    · exact t2 q
    · exact t3 q
    · exact t4 q
  done := fun s Q E st hQ => by
    obtain ⟨a1, a2, ⟨a, b, a3⟩, a4, a5⟩ := st
    have hT : s.TypeIs (.ref z) "zip" := ⟨_, a1, rfl⟩
    unfold pyNext
    refine wpAny_bind (wpAny_attempt (wpAny_callSpecial?_slot (name := Str.ofString "__next__") hT F.slot_zip_next (wpAny_call_entry F.slot_zip_next hT F.entry_zip_next
      (zip_endD D1 D2 Z a1 a2 a3 a4 a5 rfl fun h' e tk hk he => ?_) (F.args_zip_next_1 _))))
    obtain ⟨o, ho, hc⟩ := he
    refine wpAny_bind (wpAny_isInstance (T := "StopIteration") (b := true) ⟨o, ho, hc⟩ isSubtype_stop ?_)
    exact wpAny_pure (hQ _ _ fun c o hc e => hk c o (fun q => hc (by simp [q])) (fun q => hc (by simp [q])) (fun q => hc (by simp [q])) (fun q => hc (by simp [q])) e)
  self := fun i s Q E st hQ => wpAny_pyIter_zip st.1 hQ
/-! zip(text, tuple) -/
abbrev zs1 (h : Heap) (x : Str) (t : Tok) : Heap := h.push { cls := .type (strIterType x), data := .fields #[.str x t, .int 0 0] }
abbrev zs2 (h : Heap) (x : Str) (t : Tok) (l : Addr) : Heap := (zs1 h x t).push { cls := .type "tuple_iterator", data := .fields #[.ref l, .int 0 0] }
abbrev zs3 (h : Heap) (x : Str) (t : Tok) (l : Addr) : Heap := (zs2 h x t l).push { cls := .type "tuple", data := .seq #[.ref h.objs.size, .ref (zs1 h x t).objs.size] }
abbrev zs4 (h : Heap) (x : Str) (t : Tok) (l : Addr) : Heap := (zs3 h x t l).push { cls := .type "tuple", data := .seq #[.none, .none] }
abbrev zs5 (h : Heap) (x : Str) (t : Tok) (l : Addr) : Heap := (zs4 h x t l).push { cls := .type "zip", data := .fields #[.none, .bool false, .bool false, .ref (zs2 h x t l).objs.size, .ref (zs3 h x t l).objs.size] }
theorem IsTuple_push {h : Heap} {l : Addr} {ys : Array Value} (hl : h.IsTuple l ys) (o : Obj) : (h.push o).IsTuple l ys := by
  obtain ⟨u, e, r⟩ := hl
  exact ⟨u, Heap.get?_push_of_some _ e, r⟩
set_option maxHeartbeats 4000000 in
theorem zip_newST (x : Str) (t : Tok) (l : Addr) (ys : Array Value) :
    Meets (Builtin.«zip.__new__» ⟨[.type "zip", .str x t, .ref l], []⟩) (fun _ R s => s.heap.IsTuple l ys ∧
      R (.ok (.ret (.ref (zs4 s.heap x t l).objs.size))) { s with heap := zs5 s.heap x t l }) :=
  .of_wp fun prog w A R s h => by
    obtain ⟨hp, g, d, tk, os⟩ := s; obtain ⟨hl, h⟩ := h
    have hsub := sub_zip
    have hL : Heap.IsTuple (Shared.heap ⟨hp.push { cls := .type (strIterType x), data := .fields #[.str x t, .int 0 0] }, g, d, tk, os⟩) l ys := IsTuple_push hl _
    wp_walk using wpAny_pyIter_strU, wpAny_pyIter_tuple hL
    exact ⟨_, rfl, h⟩
section
variable {prog : Program} {w : World} {A : Around} {E : Value → Shared → Prop} {s : Shared}
theorem call_zipST {x : Str} {t : Tok} {l : Addr} {ys : Array Value} {Q : Value → Shared → Prop} (hl : s.heap.IsTuple l ys)
    (h : ∀ h', IsZip h' (s.heap.objs.size + 4) (s.heap.objs.size + 2) (s.heap.objs.size + 3) .none → IsPair h' (s.heap.objs.size + 2) (.ref s.heap.objs.size) (.ref (s.heap.objs.size + 1)) →
      IsPair h' (s.heap.objs.size + 3) .none .none → h'.IsStrIter s.heap.objs.size (strIterType x) x t 0 → h'.IsTupleIter (s.heap.objs.size + 1) l 0 →
      (∀ c o, s.heap.get? c = some o → h'.get? c = some o) → Q (.ref (s.heap.objs.size + 4)) { s with heap := h' }) :
    wpAny (model prog w) A (call (.type "zip") [.str x t, .ref l]) Q E s := by
  refine callType_new F.called_zip (by decide) (F.typeCall_zip_2 _ _) (F.newCall_zip_2 _ _) (fun obj => F.args_object_init_3 obj _ _) F.entry_zip_new (zip_newST x t l ys) ⟨hl, ?_⟩
  have z1 : (zs1 s.heap x t).objs.size = s.heap.objs.size + 1 := Heap.size_push ..
  have z2 : (zs2 s.heap x t l).objs.size = s.heap.objs.size + 2 := by rw [Heap.size_push, z1]
  have z3 : (zs3 s.heap x t l).objs.size = s.heap.objs.size + 3 := by rw [Heap.size_push, z2]
  have z4 : (zs4 s.heap x t l).objs.size = s.heap.objs.size + 4 := by rw [Heap.size_push, z3]
  have p5 : (zs5 s.heap x t l).get? (zs4 s.heap x t l).objs.size = some _ := Heap.get?_push_size _ rfl
  have p4 : (zs5 s.heap x t l).get? (zs3 s.heap x t l).objs.size = some _ := Heap.get?_push_of_some _ (Heap.get?_push_size _ rfl)
  have p3 : (zs5 s.heap x t l).get? (zs2 s.heap x t l).objs.size = some _ := Heap.get?_push_of_some _ (Heap.get?_push_of_some _ (Heap.get?_push_size _ rfl))
  have p2 : (zs5 s.heap x t l).get? (zs1 s.heap x t).objs.size = some _ := Heap.get?_push_of_some _ (Heap.get?_push_of_some _ (Heap.get?_push_of_some _ (Heap.get?_push_size _ rfl)))
  have p1 : (zs5 s.heap x t l).get? s.heap.objs.size = some _ := Heap.get?_push_of_some _ (Heap.get?_push_of_some _ (Heap.get?_push_of_some _ (Heap.get?_push_of_some _ (Heap.get?_push_size _ rfl))))
  show _ ∧ _
  rw [z2, z3, z4] at p5
  rw [z1, z2] at p3
  rw [z3] at p4
  rw [z1] at p2
  rw [z4]
  exact ⟨⟨_, p5, rfl⟩, h _ p5 p3 p4 ⟨_, p1, rfl, rfl⟩ ⟨_, p2, rfl, rfl⟩ fun c o e => Heap.get?_push_of_some _ (Heap.get?_push_of_some _ (Heap.get?_push_of_some _ (Heap.get?_push_of_some _ (Heap.get?_push_of_some _ e))))⟩
end
end L2

set_option Elab.async false
set_option linter.all false
set_option maxRecDepth 100000
namespace L2
open PySem PySem.Spec PyProof.Rows
/-- two rows side by side -/
def Izp (xs ys : List V) (ok : Hp → Prop) : It :=
  ⟨fun i H => ok H ∧ i < xs.length ∧ i < ys.length, fun i H x H' => ∃ T u v, H T = none ∧ xs[i]? = some u ∧ ys[i]? = some v ∧ x = .ref T ∧ H' = upd H T (.tup [u, v]), fun i H => ok H ∧ i = min xs.length ys.length⟩
theorem turn_zip {P : Program} {w : World} {K : PySem.W.Frag} {elts : List Expr} {k : Nat} {pos : Pos} {z TI TO i1 i2 : Addr} {xs ys : List V} {ok : Hp → Prop} {S1 S2 : Nat → Heap → Prop}
    (n1 : TI ≠ z) (n2 : TO ≠ z) (n3 : i1 ≠ z) (n4 : i2 ≠ z) (n5 : TI ≠ TO) (n6 : TI ≠ i1) (n7 : TI ≠ i2) (n8 : TO ≠ i1) (n9 : TO ≠ i2) (n10 : i1 ≠ i2)
    (hD1 : ∀ (X : Cx), X.prog = P → X.w = w → X.K = K → X.calm = true → ∀ (i : Nat) (pins : List (Addr × Obj)) (s : Shared) (σ : St) (H : Hp), Inv X pins σ H s → ok H → H i1 = none → S1 i s.heap → DrawAt P w X.A.in1 i1 xs S1 H i s.heap)
    (hD2 : ∀ (X : Cx), X.prog = P → X.w = w → X.K = K → X.calm = true → ∀ (i : Nat) (pins : List (Addr × Obj)) (s : Shared) (σ : St) (H : Hp), Inv X pins σ H s → ok H → H i2 = none → S2 i s.heap → DrawAt P w X.A.in1 i2 ys S2 H i s.heap)
    (o1 : ∀ i h, S1 i h → ∃ o, h.get? i1 = some o ∧ ∀ v, o.data ≠ .cell v) (o2 : ∀ i h, S2 i h → ∃ o, h.get? i2 = some o ∧ ∀ v, o.data ≠ .cell v)
    (k1 : ∀ i h h', S1 i h → (∀ o, h.get? i1 = some o → h'.get? i1 = some o) → S1 i h') (k2 : ∀ i h h', S2 i h → (∀ o, h.get? i2 = some o → h'.get? i2 = some o) → S2 i h') :
    Turn P w K (.Tuple elts k pos) (Izp xs ys ok) [z, TI, TO, i1, i2] z (fun i h => IsZip h z TI TO .none ∧ IsPair h TI (.ref i1) (.ref i2) ∧ (∃ a b, IsPair h TO a b) ∧ S1 i h ∧ S2 i h) where
  mem := by simp
  obj := fun i h st c hc => by
    obtain ⟨a1, a2, ⟨a, b, a3⟩, a4, a5⟩ := st
    simp only [List.mem_cons, List.not_mem_nil, or_false] at hc
    rcases hc with q | q | q | q | q <;> rw [q]
    · exact ⟨_, a1, fun v q => by have q' : Data.fields _ = Data.cell v := q; cases q'⟩
    · exact ⟨_, a2, fun v q => by have q' : Data.seq _ _ = Data.cell v := q; cases q'⟩
    · exact ⟨_, a3, fun v q => by have q' : Data.seq _ _ = Data.cell v := q; cases q'⟩
    · exact o1 i h a4
    · exact o2 i h a5
  keep := fun i h h' st kk => by
    obtain ⟨a1, a2, ⟨a, b, a3⟩, a4, a5⟩ := st
    exact ⟨kk z (by simp) _ a1, kk TI (by simp) _ a2, ⟨a, b, kk TO (by simp) _ a3⟩, k1 i h h' a4 fun o q => kk i1 (by simp) o q, k2 i h h' a5 fun o q => kk i2 (by simp) o q⟩
  item := by
    intro X hP hw hK hc i pins s σ H E I hf st hg
    subst hP hw hK
    obtain ⟨a1, a2, ⟨a, b, a3⟩, a4, a5⟩ := st
    obtain ⟨hok, hl1, hl2⟩ := hg
    obtain ⟨f1, P1, T1, D1, m1, hf1, st1, r1, bk1⟩ := hD1 X rfl rfl rfl hc i pins s σ H I hok (hf i1 (by simp)).1 a4
    obtain ⟨f2, P2, T2, D2, m2, hf2, st2, r2, bk2⟩ := hD2 X rfl rfl rfl hc i pins s σ H I hok (hf i2 (by simp)).1 a5
    have out1 : ∀ c ∈ [z, TI, TO, i1, i2], c ≠ i1 → c ∉ f1 := fun c hc hn q => by
      rcases hf1 c q with e | e
      · exact hn e
      · exact e (hf c hc).1
    have out2 : ∀ c ∈ [z, TI, TO, i1, i2], c ≠ i2 → c ∉ f2 := fun c hc hn q => by
      rcases hf2 c q with e | e
      · exact hn e
      · exact e (hf c hc).1
    have Z : ZA z TI TO i1 i2 f1 f2 := ⟨n1, n2, n3, n4, n5, n6, n7, n8, n9, n10, out1 z (by simp) n3.symm, out2 z (by simp) n4.symm, out1 TO (by simp) n8, out2 TO (by simp) n9, out2 i1 (by simp) n10, out1 i2 (by simp) n10.symm⟩
    have W := walk_zip D1 D2 Z m1 m2
    refine W.item i s _ E (by omega) ⟨a1, a2, ⟨a, b, a3⟩, st1, st2⟩ fun T vals h1 tk hPv hT hTup hm hk => ⟨.ref T, rfl, ?_⟩
    obtain ⟨x, y, hx, hy, rfl⟩ := hPv
    obtain ⟨u, hu, ru⟩ := r1 _ _ hx
    obtain ⟨v, hv, rv⟩ := r2 _ _ hy
    have apart := W.apart _ _ _ hm
    refine W.go elts k pos i T _ _ E hm fun h2 st2 hk2 => ?_
    have sub : ∀ c, c ∉ [z, TI, TO, i1, i2] → c ∉ [z, TO, i1, i2] := fun c hc q => hc (by simp only [List.mem_cons, List.not_mem_nil, or_false] at q ⊢; rcases q with q | q | q | q <;> simp [q])
    have kk : ∀ c u, c ∉ [z, TI, TO, i1, i2] → s.heap.get? c = some u → h2.get? c = some u := fun c u hc q => hk2 c u (sub c hc) (hk c u (sub c hc) q)
    have tup2 : IsTup h2 T #[x, y] := by
      obtain ⟨o, ho, r⟩ := hTup
      exact ⟨o, hk2 T o apart ho, r⟩
    refine ⟨.ref T, upd H T (.tup [u, v]), I.turnedNew (t' := tk) hT kk hf ?_, rfl, ⟨T, u, v, I.hok.fresh hT, hu, hv, rfl, rfl⟩, ?_, ?_⟩
    · exact ⟨by show 2 ≤ sizeLine; decide, [x, y], .cons ru (.cons rv .nil), tup2⟩
    · obtain ⟨c1, c2, c3, c4, c5⟩ := st2
      exact ⟨c1, c2, c3, bk1 _ _ c4, bk2 _ _ c5⟩
    · intro c hc
      have hlt : c < s.heap.objs.size := by
        simp only [List.mem_cons, List.not_mem_nil, or_false] at hc
        rcases hc with q | q | q | q | q <;> rw [q]
        · exact Heap.lt_size a1
        · exact Heap.lt_size a2
        · exact Heap.lt_size a3
        · obtain ⟨o, ho, _⟩ := o1 i _ a4; exact Heap.lt_size ho
        · obtain ⟨o, ho, _⟩ := o2 i _ a5; exact Heap.lt_size ho
      rw [upd_ne (Nat.ne_of_lt (Nat.lt_of_lt_of_le hlt hT))]
      exact (hf c hc).1
  done := by
    intro X hP hw hK hc i pins s σ H E I hf st hg
    subst hP hw hK
    obtain ⟨a1, a2, ⟨a, b, a3⟩, a4, a5⟩ := st
    obtain ⟨hok, rfl⟩ := hg
    obtain ⟨f1, P1, T1, D1, m1, hf1, st1, r1, bk1⟩ := hD1 X rfl rfl rfl hc _ pins s σ H I hok (hf i1 (by simp)).1 a4
    obtain ⟨f2, P2, T2, D2, m2, hf2, st2, r2, bk2⟩ := hD2 X rfl rfl rfl hc _ pins s σ H I hok (hf i2 (by simp)).1 a5
    have out1 : ∀ c ∈ [z, TI, TO, i1, i2], c ≠ i1 → c ∉ f1 := fun c hc hn q => by
      rcases hf1 c q with e | e
      · exact hn e
      · exact e (hf c hc).1
    have out2 : ∀ c ∈ [z, TI, TO, i1, i2], c ≠ i2 → c ∉ f2 := fun c hc hn q => by
      rcases hf2 c q with e | e
      · exact hn e
      · exact e (hf c hc).1
    have Z : ZA z TI TO i1 i2 f1 f2 := ⟨n1, n2, n3, n4, n5, n6, n7, n8, n9, n10, out1 z (by simp) n3.symm, out2 z (by simp) n4.symm, out1 TO (by simp) n8, out2 TO (by simp) n9, out2 i1 (by simp) n10, out1 i2 (by simp) n10.symm⟩
    have sub : ∀ c, c ∉ [z, TI, TO, i1, i2] → c ∉ [z, TO, i1, i2] := fun c hc q => hc (by simp only [List.mem_cons, List.not_mem_nil, or_false] at q ⊢; rcases q with q | q | q | q <;> simp [q])
    exact (walk_zip D1 D2 Z m1 m2).done s _ E ⟨a1, a2, ⟨a, b, a3⟩, st1, st2⟩ fun h1 tk hk => ⟨rfl, I.turnedL (fun c u hc q => hk c u (sub c hc) q) hf⟩
  self := fun A i s Q E st q => wpAny_pyIter_zip st.1 q
theorem zn1 {n i j : Nat} (h : i ≠ j) : n + i ≠ n + j := by omega
theorem zn2 {n j : Nat} (h : 0 ≠ j) : n ≠ n + j := by omega
theorem zn3 {n j : Nat} (h : 0 ≠ j) : n + j ≠ n := by omega
section
variable {X : Cx}
/-- zip(text, tuple) -/
def zpIt (R : It → Hp → Prop) : V → V → Hp → Prop := fun x y H1 => match x, y with
  | .str z, .ref a => ∃ ys, H1 a = some (.tup ys) ∧ R (Izp (chs z) ys fun H => H a = some (.tup ys)) H1
  | _, _ => False
def iZip (ta tb : TE) : TI := fun σ H R => ta σ H fun x H1 => tb σ H1 fun y H2 => zpIt R x y H2
theorem pi_zip {elts : List Expr} {k : Nat} {tpos : Pos} {a b : Expr} {ta tb : TE} {p pos : Pos} (hg : Gl X "zip") (hm : X.mg "zip" = none) (ha : PE X a ta) (hb : PE X b tb) (hs : starEach [a, b] X.env = (false, eval a X.env) :: starEach [b] X.env := by rfl) (hs2 : starEach [b] X.env = [(false, eval b X.env)] := by rfl) :
    PI X (.Tuple elts k tpos) (.Call (.Name "zip" p) [a, b] [] pos) (iZip ta tb) := by
  intro pins s σ H R I h
  refine Call_ (ld_blt I hg hm (by decide +kernel : bootBuiltins "zip" = some (.type "zip")) (PyProof.Rows.callWith_type1 ?_ hs (by rw [hs2]; rfl)))
  rw [hs, hs2]
  show wpAny _ _ (spliced ((false, eval a X.env) :: backTo pos [(false, eval b X.env)])) _ _ s
  refine Calls.spliced_cons (thn (ha pins s σ H _ I h) fun u s1 ⟨x, H1, I1, ru, q1⟩ => ?_)
  show wpAny _ _ (spliced ((false, eval b X.env) :: [])) _ _ s1
  refine Calls.spliced_cons (thn (hb pins s1 σ H1 _ I1 q1) fun u2 s2 ⟨y, H2, I2, ru2, q2⟩ => Calls.spliced_nil ?_)
  have q2 : zpIt R x y H2 := q2
  obtain ⟨z, l, rfl, rfl⟩ : ∃ z l, x = .str z ∧ y = .ref l := by
    unfold zpIt at q2
    split at q2
    · exact ⟨_, _, rfl, rfl⟩
    · exact q2.elim
  obtain ⟨t, rfl⟩ := ru
  cases ru2
  obtain ⟨ys, hl, q2⟩ := q2
  obtain ⟨its, rv, pl, hz⟩ := I2.tuple (SqT.of hl)
  refine call_zipST pl fun h1 c1 c2 c3 c4 c5 hk => ?_
  refine wpAny_pyIter_zip c1 ?_
  refine ⟨_, [_, _, _, _, _], _, _, H2, rfl, I2.kept (t' := s2.toks) hk, turn_zip (z := s2.heap.objs.size + 4) (TI := s2.heap.objs.size + 2) (TO := s2.heap.objs.size + 3) (i1 := s2.heap.objs.size) (i2 := s2.heap.objs.size + 1) (ok := fun H => H l = some (.tup ys)) (xs := chs z) (ys := ys)
    (S1 := fun i h => h.IsStrIter s2.heap.objs.size (strIterType z) z t i) (S2 := fun i h => h.IsTupleIter (s2.heap.objs.size + 1) l i) (zn1 (by decide)) (zn1 (by decide)) (zn2 (by decide)) (zn1 (by decide)) (zn1 (by decide)) (zn3 (by decide)) (zn1 (by decide)) (zn3 (by decide)) (zn1 (by decide)) (zn2 (by decide)) ?_ ?_ ?_ ?_ ?_ ?_, ⟨c1, c2, ⟨_, _, c3⟩, c4, c5⟩, ?_, q2⟩
  · intro X' h1 h2 h3 hc i pins s σ H I _ _ st
    exact h1 ▸ h2 ▸ drawStr (A := X'.A.in1) (show X'.A.in1.handled = none from I.ok.hd hc) st
  · intro X' h1 h2 h3 hc i pins s σ H I ok hn st
    exact h1 ▸ h2 ▸ drawTup hc I (SqT.of ok) hn (by rw [ok]; exact fun z => nomatch z) st
  · intro i h st
    obtain ⟨o, ho, hc, hd⟩ := st
    exact ⟨o, ho, fun v q => by rw [hd] at q; cases q⟩
  · intro i h st
    obtain ⟨o, ho, hc, hd⟩ := st
    exact ⟨o, ho, fun v q => by rw [hd] at q; cases q⟩
  · intro i h h' st kk
    obtain ⟨o, ho, r⟩ := st
    exact ⟨o, kk o ho, r⟩
  · intro i h h' st kk
    exact st.at kk
  · intro c hc
    have hle : s2.heap.objs.size ≤ c := by
      simp only [List.mem_cons, List.not_mem_nil, or_false] at hc
      rcases hc with q | q | q | q | q <;> rw [q] <;> first | exact Nat.le_add_right _ _ | exact Nat.le_refl _
    exact I2.fpOk hle (I2.hok.fresh hle)
end
theorem comp_zip {xs ys : List V} {ok : Hp → Prop} {p : Addr} {g : TG} {tc : TT} {te : TE} {Q : VK} {σ0 : St} {H0 : Hp} (n : Nat) (hn : n = min xs.length ys.length) (Pv : Nat → List V → St → Hp → Prop)
    (hok : ∀ i acc σ H, i ≤ n → Pv i acc σ H → ok H) (h0 : Pv 0 [] σ0 H0) (hp : ∀ i acc σ H, Pv i acc σ H → H p = some (.lst acc) ∧ acc.length ≤ i) (hz : n ≤ sizeLine)
    (hs : ∀ i u v acc σ H T, xs[i]? = some u → ys[i]? = some v → Pv i acc σ H → H T = none → g (.ref T) σ (upd H T (.tup [u, v])) fun σ3 H3 => tc σ3 H3 fun bb H4 =>
      if bb = true then te σ3 H4 fun v H5 => H5 p = some (.lst acc) ∧ Pv (i + 1) (acc ++ [v]) σ3 (upd H5 p (.lst (acc ++ [v]))) else Pv (i + 1) acc σ3 H4)
    (hd : ∀ acc σ H, Pv n acc σ H → Q (.ref p) H) : CompRuns (Izp xs ys ok) p g tc te Q σ0 H0 := by
  refine ⟨fun i m acc σ H => m = n - i ∧ i ≤ n ∧ Pv i acc σ H, ⟨n, by simp, Nat.zero_le _, h0⟩, fun i m acc σ' H' w => ?_⟩
  obtain ⟨rfl, hi, q⟩ := w
  obtain ⟨q1, q2⟩ := hp i acc σ' H' q
  have ho := hok i acc σ' H' hi q
  refine ⟨q1, ?_⟩
  by_cases hlt : i < n
  · refine .inr ⟨⟨ho, by omega, by omega⟩, by omega, Pv (i + 1), fun a' σ3 H3 k => ⟨n - (i + 1), by omega, rfl, hlt, k⟩, fun x H2 y => ?_⟩
    obtain ⟨T, u, v, hT, hu, hv, rfl, rfl⟩ := y
    exact hs i u v acc σ' H' T hu hv q hT
  · have e : i = n := by omega
    subst e
    exact .inl ⟨⟨ho, hn⟩, hd acc σ' H' q⟩
end L2

set_option Elab.async false
set_option linter.all false
set_option maxRecDepth 100000
namespace L2
open PySem PySem.Spec PyProof.Rows
section
variable {X : Cx}
/-- zip(list, list) -/
def zpItL (R : It → Hp → Prop) : V → V → Hp → Prop := fun x y H1 => match x, y with
  | .ref b, .ref a => ∃ xs ys, H1 b = some (.lst xs) ∧ H1 a = some (.lst ys) ∧ R (Izp xs ys fun H => H b = some (.lst xs) ∧ H a = some (.lst ys)) H1
  | _, _ => False
def iZipL (ta tb : TE) : TI := fun σ H R => ta σ H fun x H1 => tb σ H1 fun y H2 => zpItL R x y H2
theorem pi_zipL {elts : List Expr} {k : Nat} {tpos : Pos} {a b : Expr} {ta tb : TE} {p pos : Pos} (hg : Gl X "zip") (hm : X.mg "zip" = none) (ha : PE X a ta) (hb : PE X b tb) (hs : starEach [a, b] X.env = (false, eval a X.env) :: starEach [b] X.env := by rfl) (hs2 : starEach [b] X.env = [(false, eval b X.env)] := by rfl) :
    PI X (.Tuple elts k tpos) (.Call (.Name "zip" p) [a, b] [] pos) (iZipL ta tb) := by
  intro pins s σ H R I h
  refine Call_ (ld_blt I hg hm (by decide +kernel : bootBuiltins "zip" = some (.type "zip")) (PyProof.Rows.callWith_type1 ?_ hs (by rw [hs2]; rfl)))
  rw [hs, hs2]
  show wpAny _ _ (spliced ((false, eval a X.env) :: backTo pos [(false, eval b X.env)])) _ _ s
  refine Calls.spliced_cons (thn (ha pins s σ H _ I h) fun u s1 ⟨x, H1, I1, ru, q1⟩ => ?_)
  show wpAny _ _ (spliced ((false, eval b X.env) :: [])) _ _ s1
  refine Calls.spliced_cons (thn (hb pins s1 σ H1 _ I1 q1) fun u2 s2 ⟨y, H2, I2, ru2, q2⟩ => Calls.spliced_nil ?_)
  have q2 : zpItL R x y H2 := q2
  obtain ⟨l0, l, rfl, rfl⟩ : ∃ l0 l, x = .ref l0 ∧ y = .ref l := by
    unfold zpItL at q2
    split at q2
    · exact ⟨_, _, rfl, rfl⟩
    · exact q2.elim
  cases ru
  cases ru2
  obtain ⟨xs, ys, hl0, hl, q2⟩ := q2
  obtain ⟨its0, rv0, pl0, hz0⟩ := I2.list (SqL.of hl0)
  obtain ⟨its, rv, pl, hz⟩ := I2.list (SqL.of hl)
  refine call_zip_2 pl0.isList pl.isList fun h1 c1 c2 c3 c4 c5 _ hk => ?_
  refine wpAny_pyIter_zip c1 ?_
  refine ⟨_, [_, _, _, _, _], _, _, H2, rfl, I2.kept (t' := s2.toks) hk, turn_zip (z := s2.heap.objs.size + 4) (TI := s2.heap.objs.size + 2) (TO := s2.heap.objs.size + 3) (i1 := s2.heap.objs.size) (i2 := s2.heap.objs.size + 1) (ok := fun H => H l0 = some (.lst xs) ∧ H l = some (.lst ys)) (xs := xs) (ys := ys)
    (S1 := fun i h => h.IsListIter s2.heap.objs.size l0 i) (S2 := fun i h => h.IsListIter (s2.heap.objs.size + 1) l i) (zn1 (by decide)) (zn1 (by decide)) (zn2 (by decide)) (zn1 (by decide)) (zn1 (by decide)) (zn3 (by decide)) (zn1 (by decide)) (zn3 (by decide)) (zn1 (by decide)) (zn2 (by decide)) ?_ ?_ ?_ ?_ ?_ ?_, ⟨c1, c2, ⟨_, _, c3⟩, c4, c5⟩, ?_, q2⟩
  · intro X' h1 h2 h3 hc i pins s σ H I ok hn st
    exact h1 ▸ h2 ▸ drawList hc I (SqL.of ok.1) hn (by rw [ok.1]; exact fun z => nomatch z) st
  · intro X' h1 h2 h3 hc i pins s σ H I ok hn st
    exact h1 ▸ h2 ▸ drawList hc I (SqL.of ok.2) hn (by rw [ok.2]; exact fun z => nomatch z) st
  · intro i h st
    obtain ⟨o, ho, hc, hd⟩ := st
    exact ⟨o, ho, fun v q => by rw [hd] at q; cases q⟩
  · intro i h st
    obtain ⟨o, ho, hc, hd⟩ := st
    exact ⟨o, ho, fun v q => by rw [hd] at q; cases q⟩
  · intro i h h' st kk
    exact st.at kk
  · intro i h h' st kk
    exact st.at kk
  · intro c hc
    have hle : s2.heap.objs.size ≤ c := by
      simp only [List.mem_cons, List.not_mem_nil, or_false] at hc
      rcases hc with q | q | q | q | q <;> rw [q] <;> first | exact Nat.le_add_right _ _ | exact Nat.le_refl _
    exact I2.fpOk hle (I2.hok.fresh hle)
theorem i_zipL {R : It → Hp → Prop} {a b : Addr} {xs ys : List V} {H : Hp} (h1 : H a = some (.lst xs)) (h2 : H b = some (.lst ys)) (h : R (Izp xs ys fun H => H a = some (.lst xs) ∧ H b = some (.lst ys)) H) : zpItL R (.ref a) (.ref b) H := ⟨xs, ys, h1, h2, h⟩
/-! ### list.clear -/
def fClear : V → List V → Hp → VK → Prop := fun x vs H Q => match x, vs with
  | .ref l, [] => (match H l with | some (.lst xs) => Q .non (upd H l (.lst [])) | _ => False)
  | _, _ => False
theorem m_clear : MtR X "list.clear" fClear := fun pins s σ H x xs v us Q I rx rs h => by
  unfold fClear at h
  split at h
  · split at h
    · rename_i e
      exact mt_clear pins s σ H _ _ v us Q I rx rs ⟨_, _, rfl, rfl, e, h⟩
    · exact h.elim
  · exact h.elim
theorem i_clrL {l : Addr} {xs : List V} {H : Hp} {Q : VK} (h1 : H l = some (.lst xs)) (h : Q .non (upd H l (.lst []))) : fClear (.ref l) [] H Q := by
  show (match H l with | some (.lst xs) => Q .non (upd H l (.lst [])) | _ => False)
  rw [h1]; exact h
end
end L2

set_option Elab.async false
set_option linter.all false
set_option maxRecDepth 100000
namespace L2
open PySem PySem.Spec PyProof.Rows
/-! ### data that == and != may look at, piece by piece -/
def Lay (n : Nat) (d : Dt) : Prop := PyData.canLay0 (toP d) = true ∧ PyData.depth (toP d) ≤ n
theorem Lay.ok {n : Nat} {d : Dt} (h : Lay n d) (hn : n ≤ 64) : okD d := by
  unfold okD SeqAt.shaped
  rw [h.1, decide_eq_true (Nat.le_trans h.2 hn)]; rfl
theorem lay_all {n : Nat} : ∀ {ds : List Dt}, (∀ d ∈ ds, Lay n d) → PyData.canLayAll0 (toPs ds) = true ∧ PyData.depthAll (toPs ds) ≤ n
  | [], _ => ⟨rfl, Nat.zero_le _⟩
  | d :: ds, h => by
    have h1 := h d List.mem_cons_self
    have h2 := lay_all (ds := ds) fun e he => h e (List.mem_cons_of_mem _ he)
    simp only [toPs, PyData.canLayAll0, PyData.depthAll, h1.1, h2.1, Bool.and_self, true_and]
    have := h1.2
    have := h2.2
    omega
theorem Lay.lst {n : Nat} {ds : List Dt} (h : ∀ d ∈ ds, Lay n d) : Lay (n + 1) (.lst ds) := by
  have := lay_all h
  unfold Lay
  simp only [toP, PyData.canLay0, PyData.depth, this.1, true_and]
  omega
theorem Lay.tup {n : Nat} {ds : List Dt} (h : ∀ d ∈ ds, Lay n d) : Lay (n + 1) (.tup ds) := by
  have := lay_all h
  unfold Lay
  simp only [toP, PyData.canLay0, PyData.depth, this.1, true_and]
  omega
theorem Lay.mono {n m : Nat} {d : Dt} (h : Lay n d) (hm : n ≤ m) : Lay m d := ⟨h.1, Nat.le_trans h.2 hm⟩
theorem Lay.int {i : Int} : Lay 0 (.int i) := ⟨rfl, Nat.le_refl _⟩
theorem Lay.bl {b : Bool} : Lay 0 (.bl b) := ⟨rfl, Nat.le_refl _⟩
theorem Lay.non : Lay 0 .non := ⟨rfl, Nat.le_refl _⟩
theorem Lay.str {l : List Nat} (h : ∀ c ∈ l, c < 128) : Lay 0 (.str (S l)) := by
  refine ⟨?_, Nat.le_refl _⟩
  simp only [toP, PyData.canLay0]
  unfold PyData.strOk
  rw [← Array.all_toList]
  show (l.all fun x => decide (x < 0x110000)) = true
  rw [List.all_eq_true]
  intro c hc
  have := h c hc
  exact decide_eq_true (by omega)
theorem Lay.ints {n : List Int} : ∀ d ∈ n.map Dt.int, Lay 0 d := fun d hd => by
  obtain ⟨x, _, rfl⟩ := List.mem_map.mp hd
  exact Lay.int
theorem Lay.pat {x : List Nat × List Int} (h : ∀ c ∈ x.1, c < 128) : Lay 2 (patD x) := Lay.tup fun d hd => by
  rcases List.mem_cons.mp hd with h1 | h1
  · rw [h1]; exact (Lay.str h).mono (by decide)
  · have : d = .tup (x.2.map Dt.int) := by simpa using h1
    rw [this]; exact Lay.tup Lay.ints
theorem Lay.pats {xs : List (List Nat × List Int)} (h : ∀ x ∈ xs, ∀ c ∈ x.1, c < 128) : Lay 3 (patsD xs) := Lay.lst fun d hd => by
  obtain ⟨x, hx, rfl⟩ := List.mem_map.mp hd
  exact Lay.pat (h x hx)
end L2

set_option Elab.async false
set_option linter.all false
set_option maxRecDepth 100000
set_option maxHeartbeats 4000000
namespace K40
open PySem L2
local macro_rules | `(tactic| walk_at "sc") => `(tactic| first | assumption | omega | exact rfl | decide | exact szn (by omega) | (simp only [List.length_cons, List.length_nil, List.length_map, S_length] <;> omega) | trivial)
local macro_rules | `(tactic| walk_at "sq") => `(tactic| first | assumption | exact seqR_upd | exact seqR_updT | (exact seqR_lst (by assumption)) | (exact seqR_tup (by assumption)))
local macro_rules | `(tactic| walk_at "sl") => `(tactic| first | assumption | exact SqL.of upd_same | exact SqL.of (by assumption))
local macro_rules | `(tactic| walk_at "st") => `(tactic| first | assumption | exact SqT.of upd_same | exact SqT.of (by assumption))
local macro_rules | `(tactic| walk_at "lq") => `(tactic| first | assumption | exact lstR_upd | (exact lstR_of (by assumption)))
local macro_rules | `(tactic| walk_at "at") => `(tactic| first | exact atI_0 _ _ | exact atI_1 _ _ _ | exact atI_2 _ _ _ _ | exact atI_3 _ _ _ _ _ | assumption)
local macro_rules | `(tactic| walk_at "mu") => `(tactic| first | (exact CMul.l (by omega) (by omega)) | (exact CMul.r (by omega) (by omega)) | (exact CMul.l (by decide) (by decide)) | (exact CMul.r (by decide) (by decide)))
local macro_rules | `(tactic| walk_at "sd") => `(tactic| first | omega | (simp only [List.length_append, List.length_cons, List.length_nil, List.length_map, frame_length] <;> omega))
local macro_rules | `(tactic| walk_at "g1") => `(tactic| first
  | (with_reducible refine i_seq ?_) | (with_reducible refine i_ifs ?_) | (with_reducible refine i_asg ?_) | (with_reducible refine i_op ?_) | ((with_reducible refine' i_var ?k1 ?_); (case k1 => exact rfl)) | (with_reducible refine i_c ?_)
  | (with_reducible refine i_ret ?_) | (with_reducible refine i_next ?_) | (with_reducible refine i_drop ?_) | (with_reducible refine i_name ?_) | (with_reducible refine i_gsub ?_) | (with_reducible refine i_test ?_) | (with_reducible refine i_bl ?_)
  | (with_reducible refine i_fI0 ?_) | (with_reducible refine i_addI ?_) | ((with_reducible refine' i_fI ?k1 ?_); (case k1 => walk_at "sc")) | ((with_reducible refine' i_mulI ?k1 ?_); (case k1 => walk_at "mu"))
  | ((with_reducible refine' i_ixR ?k1 ?k2 ?_); (case k1 => walk_at "sq"); (case k2 => walk_at "at")) | (with_reducible refine i_cons ?_) | (with_reducible refine i_nil ?_) | (with_reducible refine i_cb ?_) | (with_reducible refine i_call ?_)
  | (with_reducible refine i_and ?_) | (with_reducible refine i_or ?_) | (with_reducible refine i_not ?_) | (with_reducible refine i_andV ?_) | (with_reducible refine i_orV ?_) | (with_reducible refine i_notV ?_) | (with_reducible refine i_ifE ?_) | (with_reducible refine i_chain ?_)
  | (with_reducible refine i_un ?_) | (with_reducible refine i_neg ?_) | (with_reducible refine i_sl ?_) | (with_reducible refine i_nopart ?_) | (with_reducible refine i_part ?_) | (with_reducible refine i_exI ?_)
  | ((with_reducible refine' i_eq ?k1 ?_); (case k1 => exact rfl)) | ((with_reducible refine' i_ne ?k1 ?_); (case k1 => exact rfl)) | (with_reducible refine i_is ?_) | (with_reducible refine i_isnot ?_) | (with_reducible refine i_inS ?_)
  | ((with_reducible refine' i_lenC ?k1 ?_); (case k1 => walk_at "sd")) | ((with_reducible refine' i_lenS ?k1 ?_); (case k1 => walk_at "sc")) | ((with_reducible refine' i_lenR ?k1 ?_); (case k1 => walk_at "sq")) | (with_reducible refine i_1I ?_) | (with_reducible refine i_2I ?_) | (with_reducible refine i_intB ?_) | (with_reducible refine i_intI ?_)
  | ((with_reducible refine' i_addC ?k1 ?_); (case k1 => walk_at "sd")) | ((with_reducible refine' i_slC ?k1 ?_); (case k1 => walk_at "sd")) | ((with_reducible refine' i_addS ?k1 ?_); (case k1 => walk_at "sc")) | ((with_reducible refine' i_slS ?k1 ?_); (case k1 => walk_at "sc")) | (with_reducible refine i_truB ?_) | (with_reducible refine i_truI ?_) | (with_reducible refine i_SS ?_) | (with_reducible refine i_SSI ?_)
  | ((with_reducible refine' i_appL ?k1 ?k2 ?_); (case k1 => first | assumption | exact upd_same); (case k2 => walk_at "sc")) | (with_reducible refine i_rng1 ?_) | (with_reducible refine i_rng2 ?_) | ((with_reducible refine' i_r1 ?k1 ?_); (case k1 => omega)) | (with_reducible refine i_comp ?_) | (with_reducible refine i_true ?_)
  | (with_reducible refine i_data ?_) | (with_reducible refine i_bm ?_) | (with_reducible refine i_bm0 ?_) | (with_reducible refine i_tyS ?_) | ((with_reducible refine' i_tyL ?k1 ?_); (case k1 => walk_at "sl")) | (with_reducible refine i_for ?_) | (with_reducible refine i_any ?_) | (with_reducible refine i_anyS ?_) | ((with_reducible refine' i_anyL ?k1 ?_); (case k1 => walk_at "sl")) | ((with_reducible refine' i_anyT ?k1 ?_); (case k1 => walk_at "st")) | (with_reducible refine i_enumS ?_) | (with_reducible refine i_enum ?_) | (with_reducible refine i_enS ?_)
  | ((with_reducible refine' i_lenK ?k1 ?_); (case k1 => assumption)) | ((with_reducible refine' i_ixK ?k1 ?k2 ?_); (case k1 => assumption); (case k2 => walk_at "at"))
  | (with_reducible refine i_lst ?_) | (with_reducible refine i_tup ?_) | (with_reducible refine i_retN ?_) | ((with_reducible refine' iteBT ?k1 ?_); (case k1 => first | exact rfl | decide)) | ((with_reducible refine' iteBF ?k1 ?_); (case k1 => first | exact rfl | decide)) | ((with_reducible refine' iteDF ?k1 ?_); (case k1 => intro z; cases z)) | ((with_reducible refine' iteDT ?k1 ?_); (case k1 => exact rfl)) | ((with_reducible refine' i_sz ?k1 ?_); (case k1 => exact szc rfl)) | ((with_reducible refine' i_isi ?k1 ?k2 ?_); (case k1 => first | exact rfl | (exact tyN_tup (by assumption)) | (exact tyN_lst (by assumption))); (case k2 => exact rfl)) | ((with_reducible refine' i_r2 ?k1 ?_); (case k1 => omega)) | ((with_reducible show Ends.nx _ _ _); dsimp only) | ((with_reducible show Ends.rt _ _ _); dsimp only) | ((with_reducible refine' i_set ?k1 ?k2 ?_); (case k1 => first | assumption | exact upd_same); (case k2 => first | exact rfl | (exact ixN_of (by omega) (by omega)))))
local macro_rules | `(tactic| walk_at "go") => `(tactic| repeat (walk_at "g1"))
seal L2.PSs L2.PS L2.PE L2.PT L2.PA L2.PI L2.PG L2.PTs L2.PGs L2.PO L2.PW
def top (i : Nat) : Stmt := PySem.Challenge.pw_breakwords_k40_what_is_missed_and_wrong.main.body.getD i (.Pass ⟨0, 0, 0, 0⟩)
structure Txt (mg : Str → Option Value) (tk : Nat → Tok) : Prop where
  z_len : mg "len" = none
  z_all : mg "all" = none
  z_range : mg "range" = none
  z_enumerate : mg "enumerate" = none
  z_isinstance : mg "isinstance" = none
  z_tuple : mg "tuple" = none
  z_list : mg "list" = none
  z_bool : mg "bool" = none
  z_str : mg "str" = none
  z_int : mg "int" = none
  z_max : mg "max" = none
  z_zip : mg "zip" = none
abbrev s_law_row : Stmt := top 10
theorem sc_law_row : FnScope ["_law_script", "_law_at", "_law_bounds", "_law_cell", "_law_rest", "_law_found", "_law_k", "_law_mixed"] ["_law_script", "_law_at", "_law_bounds"] (defScope s_law_row) := ⟨rfl, rfl, rfl, by decide +kernel, rfl, by decide +kernel, by decide +kernel⟩
abbrev s_law_letters : Stmt := top 11
theorem sc_law_letters : FnScope ["_law_numbers", "_law_letters_here", "_law_step"] ["_law_numbers"] (defScope s_law_letters) := ⟨rfl, rfl, rfl, by decide +kernel, rfl, by decide +kernel, by decide +kernel⟩
abbrev s_law_pattern : Stmt := top 12
theorem sc_law_pattern : FnScope ["_law_script", "_law_at", "_law_letters_here", "_law_told", "_law_signs", "_law_numbers"] ["_law_script", "_law_at", "_law_letters_here"] (defScope s_law_pattern) := ⟨rfl, rfl, rfl, by decide +kernel, rfl, by decide +kernel, by decide +kernel⟩
/-- drawn numbers, each below its bound -/
def spRow (K : PySem.W.Frag) : Sp := fun vs H Q _ => ∃ (a : Addr) (ns : List Int) (k : Nat) (b : Addr) (bs : List Int), vs = [.ref a, .int (k : Int), .ref b] ∧ SqL K H a (ns.map V.int) ∧ k < 1000 ∧ H b = some (.lst (bs.map V.int)) ∧ bs.length ≤ 100 ∧ (∀ x ∈ bs, 0 < x ∧ x < 1000000) ∧
  ∀ (r : Addr) (ds : List Int) (H' : Hp), H r = none → H' r = some (.lst (ds.map V.int)) → ds.length = bs.length → (∀ (j : Nat) d c, ds[j]? = some d → bs[j]? = some c → 0 ≤ d ∧ d < c) → Same H H' → Q (.ref r) H'
/-- letters, one by one -/
def lets (l : List Nat) : List V := l.map fun c => V.str (S [c])
/-- three to five letters -/
def spLets : Sp := fun vs H Q _ => ∃ (a : Addr) (x y z : Int), vs = [.ref a] ∧ H a = some (.lst [.int x, .int y, .int z]) ∧ 0 ≤ x ∧ x < 26 ∧ 0 ≤ y ∧ y < 6 ∧ 0 ≤ z ∧ z < 3 ∧
  ∀ (r : Addr) (l : List Nat) (H' : Hp), H r = none → H' r = some (.lst (lets l)) → Low l → 3 ≤ l.length → l.length ≤ 5 → Same H H' → Q (.ref r) H'
/-- a drawn pattern -/
def spPat (K : PySem.W.Frag) : Sp := fun vs H Q _ => ∃ (a : Addr) (ns : List Int) (k : Nat) (b : Addr) (l : List Nat), vs = [.ref a, .int (k : Int), .ref b] ∧ SqL K H a (ns.map V.int) ∧ k < 1000 ∧ H b = some (.lst (lets l)) ∧ Low l ∧ 1 ≤ l.length ∧ l.length ≤ 26 ∧
  ∀ (v : V) (x : Pat) (H' : Hp), Is H' v (patD x) → GP x → x.1.length ≤ 6 → Same H H' → Q v H'
theorem Low_lt {l : List Nat} (h : Low l) : ∀ c ∈ l, c < 128 := fun c hc => by
  have := h c hc
  unfold isLow at this
  simp at this
  omega
section
variable {P : Program} {w : World} {K : PySem.W.Frag} {mg : Str → Option Value} {base : Heap} {f : Addr} {fd : FuncData} {tk : Nat → Tok}
theorem ok_law_row (T : Txt mg tk) (F : Fun K "_law_row" "_law_row" s_law_row f fd) : FnOk P w K mg base CX0 1 f fd ["_law_script", "_law_at", "_law_bounds"] (spRow K) := by
  refine F.ok sc_law_row (fun vs H Q E h => ?_) (fun cdv A outer s H vs Q E hr h => ?_)
  · obtain ⟨a, ns, k, b, bs, rfl, _⟩ := h
    rfl
  obtain ⟨a, ns, k, b, bs, rfl, hS, hk, hb, hbl, hbs, q⟩ := h
  have nd := sc_law_row.nd
  refine ⟨_, (pss_cons (ps_set (i := 3) nd rfl (Or.inl rfl) pe_int)
    (pss_cons (ps_if (pt_cmpR o_lt (pv 1) (pe_callB (c_len (K := K)) rfl T.z_len (by decide +kernel) (pa_cons (pv 0) pa_nil)) (nomark _))
     (pss_one (ps_set (i := 3) nd rfl (Or.inl rfl) (pe_ix (ix_any (K := K)) (pv 0) (pv 1) (fun _ _ => rfl))))
     pss_nil)
    (pss_cons (ps_set (i := 4) nd rfl (Or.inl rfl) (pe_op o_sub (pv 3) (pe_op o_pow pe_int pe_int)))
    (pss_cons (ps_set (i := 5) nd rfl (Or.inl rfl) (pe_lst pa_nil))
    (pss_cons (ps_for PassesOwn.never rfl (pi_range1 rfl T.z_range (pa_cons (pe_callB (c_len (K := K)) rfl T.z_len (by decide +kernel) (pa_cons (pv 2) pa_nil)) pa_nil)) (pg_name (i := 6) nd rfl (Or.inl rfl))
     (pss_one (ps_if (pt_cmpR o_ge (pv 3) (pe_op o_pow pe_int pe_int) (nomark _))
     (pss_cons (ps_expr (pe_bmK (K := K) PySem.F.plainAttrs_list PySem.F.slot_list_append PySem.F.type_list_append m_append1 (pv 5) (pa_cons (pe_op o_mod (pv 4) (pe_ix (ix_any (K := K)) (pv 2) (pv 6) (fun _ _ => rfl))) pa_nil)))
    (pss_one (ps_set (i := 4) nd rfl (Or.inl rfl) (pe_op o_fdiv (pv 4) (pe_ix (ix_any (K := K)) (pv 2) (pv 6) (fun _ _ => rfl))))))
     (pss_cons (ps_set (i := 7) nd rfl (Or.inl rfl) (pe_op o_add (pe_op o_add (pe_op o_mul (pe_op o_add (pe_op o_mod (pv 3) pe_int) pe_int) pe_int) (pe_op o_mul (pe_op o_mul (pe_op o_add (pv 6) pe_int) (pe_op o_add (pv 6) pe_int)) pe_int)) (pe_op o_mul (pv 1) pe_int)))
    (pss_cons (ps_set (i := 7) nd rfl (Or.inl rfl) (pe_op o_fdiv (pe_op o_mod (pe_op o_mul (pe_op o_mod (pv 7) pe_int) pe_int) pe_int) pe_int))
    (pss_one (ps_expr (pe_bmK (K := K) PySem.F.plainAttrs_list PySem.F.slot_list_append PySem.F.type_list_append m_append1 (pv 5) (pa_cons (pe_op o_mod (pe_op o_mul (pv 7) (pe_op o_pow pe_int pe_int)) (pe_ix (ix_any (K := K)) (pv 2) (pv 6) (fun _ _ => rfl))) pa_nil)))))))))
    (pss_one (ps_ret (pv 5)))))))), ?_⟩
  rw [show L2.start ["_law_script", "_law_at", "_law_bounds", "_law_cell", "_law_rest", "_law_found", "_law_k", "_law_mixed"] [.ref a, .int (k : Int), .ref b] = [some (.ref a), some (.int (k : Int)), some (.ref b), none, none, none, none, none] from rfl]
  have hlen : (ns.map V.int).length = ns.length := List.length_map _
  have hlen2 : (bs.map V.int).length = bs.length := List.length_map _
  walk_at "go"
  refine iteD (fun c => ?_) (fun c => ?_)
  · rw [hlen] at c
    have hix : k < ns.length := by omega
    walk_at "go"
    refine i_ixK (v := .int ns[k]) hS ?_ ?_
    · exact atI_of (by omega) (by rw [List.getElem?_map, show ((k : Int)).toNat = k by omega, List.getElem?_eq_getElem hix]; rfl)
    walk_at "go"
    intro r hr0
    have s1 := same_new hr0 (.lst [])
    have hb1 := s1 _ _ hb
    walk_at "go"
    rw [hlen2]
    walk_at "go"
    refine for_range (fun i σ H' => ∃ (cell rest : Int) (v6 v7 : Option V) (ds : List Int), σ = [some (.ref a), some (.int (k : Int)), some (.ref b), some (.int cell), some (.int rest), some (.ref r), v6, v7] ∧ ds.length = i ∧ (∀ (j : Nat) d c, ds[j]? = some d → bs[j]? = some c → 0 ≤ d ∧ d < c) ∧ H' r = some (.lst (ds.map V.int)) ∧ Same H H')
      ⟨_, _, none, none, [], rfl, rfl, (fun j d c e => by simp at e), upd_same, s1⟩ ?_ ?_
    · rintro i σ H1 hi ⟨cell, rest, v6, v7, ds, rfl, hdl, hds, e1, s2⟩
      have hil : i < bs.length := by omega
      have hb2 := s2 _ _ hb
      obtain ⟨hc0, hc1⟩ := hbs _ (List.getElem_mem hil)
      have hdl2 : (ds.map V.int).length < 1000000 := by rw [List.length_map]; omega
      have hbi : atI (bs.map V.int) (0 + (i : Int)) = some (.int bs[i]) := atI_of (by omega) (by rw [show (0 + (i : Int)).toNat = i by omega, List.getElem?_map, List.getElem?_eq_getElem hil]; rfl)
      have hbe : bs[i]? = some bs[i] := List.getElem?_eq_getElem hil
      generalize bs[i] = m at hc0 hc1 hbi hbe
      have key : ∀ d : Int, 0 ≤ d → d < m → (∀ (j : Nat) d' c, (ds ++ [d])[j]? = some d' → bs[j]? = some c → 0 ≤ d' ∧ d' < c) ∧ (ds ++ [d]).length = i + 1 ∧ (upd H1 r (.lst (ds.map V.int ++ [.int d]))) r = some (.lst ((ds ++ [d]).map V.int)) ∧ Same H (upd H1 r (.lst (ds.map V.int ++ [.int d]))) := fun d h0 h1 => by
        refine ⟨fun j d' c e ec => ?_, by simp [hdl], by rw [upd_same, List.map_append]; rfl, fun b' o e => ?_⟩
        · by_cases hj : j < ds.length
          · rw [List.getElem?_append_left hj] at e
            exact hds j d' c e ec
          · have hj2 : j = ds.length := by
              have := (List.getElem?_eq_some_iff.mp e).1
              simp at this; omega
            subst hj2
            rw [List.getElem?_append_right (Nat.le_refl _), Nat.sub_self] at e
            simp only [List.getElem?_cons_zero, Option.some.injEq] at e
            rw [hdl, hbe] at ec
            cases ec
            subst e
            exact ⟨h0, h1⟩
        · have hbr : b' ≠ r := fun z => by rw [z, hr0] at e; cases e
          rw [upd_ne hbr]; exact s2 b' o e
      have hcd : CDiv rest m := ⟨hc0, by omega⟩
      have fin : ∀ d : Int, 0 ≤ d → d < m → ∀ (cell rest : Int) (v6 v7 : Option V), ∃ (cell' rest' : Int) (v6' v7' : Option V) (ds' : List Int), [some (V.ref a), some (.int (k : Int)), some (.ref b), some (.int cell), some (.int rest), some (.ref r), v6, v7] = [some (V.ref a), some (.int (k : Int)), some (.ref b), some (.int cell'), some (.int rest'), some (.ref r), v6', v7'] ∧ ds'.length = i + 1 ∧ (∀ (j : Nat) d c, ds'[j]? = some d → bs[j]? = some c → 0 ≤ d ∧ d < c) ∧ (upd H1 r (.lst (ds.map V.int ++ [.int d]))) r = some (.lst (ds'.map V.int)) ∧ Same H (upd H1 r (.lst (ds.map V.int ++ [.int d]))) := fun d h0 h1 cell rest v6 v7 => by
        obtain ⟨k1, k2, k3, k4⟩ := key d h0 h1
        exact ⟨cell, rest, v6, v7, ds ++ [d], rfl, k2, k1, k3, k4⟩
      walk_at "go"
      refine iteD (fun c => ?_) (fun c => ?_)
      · walk_at "go"
        have hb3 := (key (rest % m) (Int.emod_nonneg _ (by omega)) (Int.emod_lt_of_pos _ hc0)).2.2.2 _ _ hb
        walk_at "go"
        exact fin _ (Int.emod_nonneg _ (by omega)) (Int.emod_lt_of_pos _ hc0) _ _ _ _
      · walk_at "go"
        exact fin _ (Int.emod_nonneg _ (by omega)) (Int.emod_lt_of_pos _ hc0) _ _ _ _
    · rintro σ H1 ⟨cell, rest, v6, v7, ds, rfl, hdl, hds, e1, s2⟩
      walk_at "go"
      exact q r ds H1 hr0 e1 (by omega) hds s2
  · skip
    walk_at "go"
    intro r hr0
    have s1 := same_new hr0 (.lst [])
    have hb1 := s1 _ _ hb
    walk_at "go"
    rw [hlen2]
    walk_at "go"
    refine for_range (fun i σ H' => ∃ (cell rest : Int) (v6 v7 : Option V) (ds : List Int), σ = [some (.ref a), some (.int (k : Int)), some (.ref b), some (.int cell), some (.int rest), some (.ref r), v6, v7] ∧ ds.length = i ∧ (∀ (j : Nat) d c, ds[j]? = some d → bs[j]? = some c → 0 ≤ d ∧ d < c) ∧ H' r = some (.lst (ds.map V.int)) ∧ Same H H')
      ⟨_, _, none, none, [], rfl, rfl, (fun j d c e => by simp at e), upd_same, s1⟩ ?_ ?_
    · rintro i σ H1 hi ⟨cell, rest, v6, v7, ds, rfl, hdl, hds, e1, s2⟩
      have hil : i < bs.length := by omega
      have hb2 := s2 _ _ hb
      obtain ⟨hc0, hc1⟩ := hbs _ (List.getElem_mem hil)
      have hdl2 : (ds.map V.int).length < 1000000 := by rw [List.length_map]; omega
      have hbi : atI (bs.map V.int) (0 + (i : Int)) = some (.int bs[i]) := atI_of (by omega) (by rw [show (0 + (i : Int)).toNat = i by omega, List.getElem?_map, List.getElem?_eq_getElem hil]; rfl)
      have hbe : bs[i]? = some bs[i] := List.getElem?_eq_getElem hil
      generalize bs[i] = m at hc0 hc1 hbi hbe
      have key : ∀ d : Int, 0 ≤ d → d < m → (∀ (j : Nat) d' c, (ds ++ [d])[j]? = some d' → bs[j]? = some c → 0 ≤ d' ∧ d' < c) ∧ (ds ++ [d]).length = i + 1 ∧ (upd H1 r (.lst (ds.map V.int ++ [.int d]))) r = some (.lst ((ds ++ [d]).map V.int)) ∧ Same H (upd H1 r (.lst (ds.map V.int ++ [.int d]))) := fun d h0 h1 => by
        refine ⟨fun j d' c e ec => ?_, by simp [hdl], by rw [upd_same, List.map_append]; rfl, fun b' o e => ?_⟩
        · by_cases hj : j < ds.length
          · rw [List.getElem?_append_left hj] at e
            exact hds j d' c e ec
          · have hj2 : j = ds.length := by
              have := (List.getElem?_eq_some_iff.mp e).1
              simp at this; omega
            subst hj2
            rw [List.getElem?_append_right (Nat.le_refl _), Nat.sub_self] at e
            simp only [List.getElem?_cons_zero, Option.some.injEq] at e
            rw [hdl, hbe] at ec
            cases ec
            subst e
            exact ⟨h0, h1⟩
        · have hbr : b' ≠ r := fun z => by rw [z, hr0] at e; cases e
          rw [upd_ne hbr]; exact s2 b' o e
      have hcd : CDiv rest m := ⟨hc0, by omega⟩
      have fin : ∀ d : Int, 0 ≤ d → d < m → ∀ (cell rest : Int) (v6 v7 : Option V), ∃ (cell' rest' : Int) (v6' v7' : Option V) (ds' : List Int), [some (V.ref a), some (.int (k : Int)), some (.ref b), some (.int cell), some (.int rest), some (.ref r), v6, v7] = [some (V.ref a), some (.int (k : Int)), some (.ref b), some (.int cell'), some (.int rest'), some (.ref r), v6', v7'] ∧ ds'.length = i + 1 ∧ (∀ (j : Nat) d c, ds'[j]? = some d → bs[j]? = some c → 0 ≤ d ∧ d < c) ∧ (upd H1 r (.lst (ds.map V.int ++ [.int d]))) r = some (.lst (ds'.map V.int)) ∧ Same H (upd H1 r (.lst (ds.map V.int ++ [.int d]))) := fun d h0 h1 cell rest v6 v7 => by
        obtain ⟨k1, k2, k3, k4⟩ := key d h0 h1
        exact ⟨cell, rest, v6, v7, ds ++ [d], rfl, k2, k1, k3, k4⟩
      walk_at "go"
      refine iteD (fun c => ?_) (fun c => ?_)
      · walk_at "go"
        have hb3 := (key (rest % m) (Int.emod_nonneg _ (by omega)) (Int.emod_lt_of_pos _ hc0)).2.2.2 _ _ hb
        walk_at "go"
        exact fin _ (Int.emod_nonneg _ (by omega)) (Int.emod_lt_of_pos _ hc0) _ _ _ _
      · walk_at "go"
        exact fin _ (Int.emod_nonneg _ (by omega)) (Int.emod_lt_of_pos _ hc0) _ _ _ _
    · rintro σ H1 ⟨cell, rest, v6, v7, ds, rfl, hdl, hds, e1, s2⟩
      walk_at "go"
      exact q r ds H1 hr0 e1 (by omega) hds s2
theorem ok_law_letters (T : Txt mg tk) (F : Fun K "_law_letters" "_law_letters" s_law_letters f fd) : FnOk P w K mg base CX0 1 f fd ["_law_numbers"] spLets := by
  refine F.ok sc_law_letters (fun vs H Q E h => ?_) (fun cdv A outer s H vs Q E hr h => ?_)
  · obtain ⟨a, x, y, z, rfl, _⟩ := h
    rfl
  obtain ⟨a, x, y, z, rfl, ha, hx0, hx1, hy0, hy1, hz0, hz1, q⟩ := h
  have nd := sc_law_letters.nd
  refine ⟨_, (pss_cons (ps_set (i := 1) nd rfl (Or.inr rfl) pe_str)
    (pss_cons (ps_set (i := 2) nd rfl (Or.inr rfl) (pe_ix (ix_any (K := K)) (pe_lst (pa_cons pe_int (pa_cons pe_int (pa_cons pe_int (pa_cons pe_int (pa_cons pe_int (pa_cons pe_int pa_nil))))))) (pe_ix (ix_any (K := K)) (pv 0) pe_int (fun _ _ => rfl)) (fun _ _ => rfl)))
    (pss_one (ps_ret (pe_comp ["_law_letters_here", "_law_numbers", "_law_step", "_law_k"] [some 1, some 0, some 2, none] rfl (by kernel_rfl) rfl (pi_range1 rfl T.z_range (pa_cons (pe_op o_add pe_int (pe_ix (ix_any (K := K)) (pv 0) pe_int (fun _ _ => rfl))) pa_nil)) (fun _ _ _ _ => (pg_name (i := 3) (show (["_law_letters_here", "_law_numbers", "_law_step", "_law_k"] : List Str).Nodup by decide +kernel) rfl (Or.inl rfl) (Or.inr rfl))) (fun _ _ _ _ => pts_nil) (fun _ _ _ _ => (pe_ix (ix_any (K := K)) (pv 0) (pe_op o_mod (pe_op o_add (pe_ix (ix_any (K := K)) (pv 1) pe_int (fun _ _ => rfl)) (pe_op o_mul (pv 2) (pv 3))) pe_int) (fun _ _ => rfl)))))))), ?_⟩
  rw [show L2.start ["_law_numbers", "_law_letters_here", "_law_step"] [.ref a] = [some (.ref a), none, none] from rfl]
  rw [t_let]
  walk_at "go"
  intro b hb0
  have s1 := same_new hb0 (.lst [.int 1, .int 3, .int 5, .int 7, .int 9, .int 11])
  have e1 := upd_same (H := H) (a := b) (o := .lst [.int 1, .int 3, .int 5, .int 7, .int 9, .int 11])
  generalize upd H b (.lst [.int 1, .int 3, .int 5, .int 7, .int 9, .int 11]) = H1 at s1 e1 ⊢
  have ha1 := s1 _ _ ha
  walk_at "go"
  obtain ⟨st, hst, hst1, hst2⟩ : ∃ st : Int, atI [V.int 1, V.int 3, V.int 5, V.int 7, V.int 9, V.int 11] y = some (.int st) ∧ 1 ≤ st ∧ st ≤ 11 := by
    have : y = 0 ∨ y = 1 ∨ y = 2 ∨ y = 3 ∨ y = 4 ∨ y = 5 := by omega
    rcases this with rfl | rfl | rfl | rfl | rfl | rfl
    · exact ⟨1, by decide +kernel, by decide, by decide⟩
    · exact ⟨3, by decide +kernel, by decide, by decide⟩
    · exact ⟨5, by decide +kernel, by decide, by decide⟩
    · exact ⟨7, by decide +kernel, by decide, by decide⟩
    · exact ⟨9, by decide +kernel, by decide, by decide⟩
    · exact ⟨11, by decide +kernel, by decide, by decide⟩
  refine i_ixR (seqR_lst e1) hst ?_
  walk_at "go"
  intro r hr0
  refine comp_range (fun i acc σ H' => ∃ (v : Option V) (ws : List Nat), σ = [some (.str (S LETL)), some (.ref a), some (.int st), v] ∧ acc = lets ws ∧ ws.length = i ∧ Low ws ∧ Same H H' ∧ H' r = some (.lst acc))
    ⟨none, [], rfl, rfl, rfl, (fun c hc => nomatch hc), s1.trans (same_new hr0 _), upd_same⟩ (fun i acc σ H' ⟨_, ws, _, e, e1, _, _, e2⟩ => ⟨e2, by rw [e, lets, List.length_map]; omega⟩) (szn (by omega)) ?_ ?_
  · rintro i acc σ H' hi ⟨v, ws, rfl, rfl, hw1, hw2, s2, e2⟩
    have hll : (S LETL).length ≤ sizeLine := szn (by rw [S_length]; decide)
    have ha2 := s2 _ _ ha
    walk_at "go"
    have hl : LETL.length = 26 := rfl
    have hc0 := Int.emod_nonneg (x + st * (0 + (i : Int))) (show (26 : Int) ≠ 0 by decide)
    have hc1 := Int.emod_lt_of_pos (x + st * (0 + (i : Int))) (show (0 : Int) < 26 by decide)
    generalize (x + st * (0 + (i : Int))) % 26 = c at hc0 hc1 ⊢
    have hcl : c.toNat < LETL.length := by omega
    refine i_ixS (c := LETL[c.toNat]) hll (atI_of hc0 (by rw [S_cps]; simp [hcl])) ?_
    refine ⟨e2, _, ws ++ [LETL[c.toNat]], rfl, by rw [lets, lets, List.map_append]; rfl, by rw [List.length_append, hw1]; rfl, Low_append hw2 (fun x hx => ?_), fun b o e => ?_, upd_same⟩
    · have : x = LETL[c.toNat] := by simpa using hx
      rw [this]
      exact low_LETL _ (List.getElem_mem _)
    · have hbr : b ≠ r := fun z => by
        rw [z] at e
        have := s1 _ _ e
        rw [hr0] at this; cases this
      rw [upd_ne hbr]; exact s2 b o e
  · rintro acc σ H' ⟨v, ws, rfl, rfl, hw1, hw2, s2, e2⟩
    exact q r ws H' (s1.free hr0) e2 hw2 (by omega) (by omega) s2
theorem ok_law_pattern (T : Txt mg tk) (F : Fun K "_law_pattern" "_law_pattern" s_law_pattern f fd) (D_law_row : Dn P w K mg base "_law_row" 1 ["_law_script", "_law_at", "_law_bounds"] (spRow K)) : FnOk P w K mg base CX0 2 f fd ["_law_script", "_law_at", "_law_letters_here"] (spPat K) := by
  refine F.ok sc_law_pattern (fun vs H Q E h => ?_) (fun cdv A outer s H vs Q E hr h => ?_)
  · obtain ⟨a, ns, k, b, l, rfl, _⟩ := h
    rfl
  obtain ⟨a, ns, k, b, l, rfl, hS, hk, hb, hl, hl1, hl2, q⟩ := h
  have nd := sc_law_pattern.nd
  refine ⟨_, (pss_cons (ps_set (i := 3) nd rfl (Or.inr rfl) (pe_callD D_law_row (hr.mono (by first | decide | omega)) rfl (pa_cons (pv 0) (pa_cons (pv 1) (pa_cons (pe_op o_add (pe_op o_add (pe_lst (pa_cons pe_int (pa_cons pe_int pa_nil))) (pe_op o_mul (pe_lst (pa_cons pe_int pa_nil)) pe_int)) (pe_op o_mul (pe_lst (pa_cons pe_int pa_nil)) pe_int)) pa_nil)))))
    (pss_cons (ps_set (i := 4) nd rfl (Or.inl rfl) (pe_bmK (K := K) PySem.F.plainAttrs_str PySem.F.slot_str_join PySem.F.type_str_join m_join1 pe_str (pa_cons (pe_comp ["_law_letters_here", "_law_told", "_law_k"] [some 2, some 3, none] rfl (by kernel_rfl) rfl (pi_range1 rfl T.z_range (pa_cons (pe_op o_add pe_int (pe_ix (ix_any (K := K)) (pv 3) pe_int (fun _ _ => rfl))) pa_nil)) (fun _ _ _ _ => (pg_name (i := 2) (show (["_law_letters_here", "_law_told", "_law_k"] : List Str).Nodup by decide +kernel) rfl (Or.inl rfl) (Or.inr rfl))) (fun _ _ _ _ => pts_nil) (fun _ _ _ _ => (pe_ix (ix_any (K := K)) (pv 0) (pe_op o_mod (pe_ix (ix_any (K := K)) (pv 1) (pe_op o_add pe_int (pv 2)) (fun _ _ => rfl)) (pe_callB (c_len (K := K)) rfl T.z_len (by decide +kernel) (pa_cons (pv 0) pa_nil))) (fun _ _ => rfl)))) pa_nil)))
    (pss_cons (ps_if (pt_cmpR o_in (pe_ix (ix_any (K := K)) (pv 3) pe_int (fun _ _ => rfl)) (pe_tup (pa_cons pe_int (pa_cons pe_int pa_nil))) (by with_unfolding_all rfl))
     (pss_one (ps_set (i := 4) nd rfl (Or.inl rfl) (pe_op o_add pe_str (pv 4))))
     pss_nil)
    (pss_cons (ps_if (pt_cmpR o_in (pe_ix (ix_any (K := K)) (pv 3) pe_int (fun _ _ => rfl)) (pe_tup (pa_cons pe_int (pa_cons pe_int pa_nil))) (by with_unfolding_all rfl))
     (pss_one (ps_set (i := 4) nd rfl (Or.inl rfl) (pe_op o_add (pv 4) pe_str)))
     pss_nil)
    (pss_cons (ps_setC (i := 5) ["_law_number"] [none] rfl (by kernel_rfl) rfl nd rfl rfl (pi_any (K := K) (pe_slice (sl_any (K := K)) (pv 3) (po_some pe_int) (po_some (pe_op o_add pe_int (pe_callB (c_len (K := K)) rfl T.z_len (by decide +kernel) (pa_cons (pv 4) pa_nil)))))) (fun _ _ _ _ => (pg_name (i := 0) (show (["_law_number"] : List Str).Nodup by decide +kernel) rfl (Or.inl rfl) (Or.inr rfl))) (fun _ _ _ _ => pts_nil) (fun _ _ _ _ => (pe_op o_mul (pv 0) (pe_callTy c_int rfl T.z_int (by decide +kernel) (pa_cons (pe_cmpR o_lt (pv 0) pe_int (nomark _)) pa_nil)))))
    (pss_cons (ps_if (pt_cmpR (o_eq hr.units) (pe_ix (ix_any (K := K)) (pv 4) pe_int (fun _ _ => rfl)) pe_str (nomark _))
     (pss_one (ps_asg pe_int (pg_sub (pv 5) pe_int set_l)))
     pss_nil)
    (pss_cons (ps_if (pt_cmpR (o_eq hr.units) (pe_ix (ix_any (K := K)) (pv 4) (pe_un o_neg pe_int) (fun _ _ => rfl)) pe_str (nomark _))
     (pss_one (ps_asg pe_int (pg_sub (pv 5) (pe_un o_neg pe_int) set_l)))
     pss_nil)
    (pss_one (ps_ret (pe_tup (pa_cons (pv 4) (pa_cons (pe_callTy c_tuple rfl T.z_tuple (by decide +kernel) (pa_cons (pv 5) pa_nil)) pa_nil)))))))))))), ?_⟩
  rw [show L2.start ["_law_script", "_law_at", "_law_letters_here", "_law_told", "_law_signs", "_law_numbers"] [.ref a, .int (k : Int), .ref b] = [some (.ref a), some (.int (k : Int)), some (.ref b), none, none, none] from rfl]
  rw [t_empty, t_dot]
  walk_at "go"
  intro p1 h1
  walk_at "go"
  intro p2 h2
  walk_at "go"
  refine i_mulZ upd_same (by decide) fun p3 h3 => ?_
  have e31 : (upd (upd (upd H p1 (.lst [.int 4, .int 8])) p2 (.lst [.int 4])) p3 (.lst (List.replicate (4 : Int).toNat (.int 4)))) p1 = some (.lst [.int 4, .int 8]) := (same_new h3 _) _ _ ((same_new h2 _) _ _ upd_same)
  have s3 := ((same_new h1 (.lst [.int 4, .int 8])).trans (same_new h2 (.lst [.int 4]))).trans (same_new h3 (.lst (List.replicate (4 : Int).toNat (.int 4))))
  walk_at "go"
  refine i_addL e31 upd_same (szn (by decide)) fun p4 h4 => ?_
  have s4 := s3.trans (same_new h4 (.lst ([.int 4, .int 8] ++ List.replicate (4 : Int).toNat (.int 4))))
  have e4 := upd_same (H := upd (upd (upd H p1 (.lst [.int 4, .int 8])) p2 (.lst [.int 4])) p3 (.lst (List.replicate (4 : Int).toNat (.int 4)))) (a := p4) (o := .lst ([.int 4, .int 8] ++ List.replicate (4 : Int).toNat (.int 4)))
  generalize upd (upd (upd (upd H p1 (.lst [.int 4, .int 8])) p2 (.lst [.int 4])) p3 (.lst (List.replicate (4 : Int).toNat (.int 4)))) p4 (.lst ([.int 4, .int 8] ++ List.replicate (4 : Int).toNat (.int 4))) = H4 at s4 e4 ⊢
  walk_at "go"
  intro p5 h5
  walk_at "go"
  refine i_mulZ upd_same (by decide) fun p6 h6 => ?_
  have e64 : (upd (upd H4 p5 (.lst [.int 14])) p6 (.lst (List.replicate (7 : Int).toNat (.int 14)))) p4 = _ := (same_new h6 _) _ _ ((same_new h5 _) _ _ e4)
  have s6 := (s4.trans (same_new h5 (.lst [.int 14]))).trans (same_new h6 (.lst (List.replicate (7 : Int).toNat (.int 14))))
  walk_at "go"
  refine i_addL e64 upd_same (szn (by decide)) fun p7 h7 => ?_
  have s7 := s6.trans (same_new h7 (.lst (([.int 4, .int 8] ++ List.replicate (4 : Int).toNat (.int 4)) ++ List.replicate (7 : Int).toNat (.int 14))))
  have e7 := upd_same (H := upd (upd H4 p5 (.lst [.int 14])) p6 (.lst (List.replicate (7 : Int).toNat (.int 14)))) (a := p7) (o := .lst (([.int 4, .int 8] ++ List.replicate (4 : Int).toNat (.int 4)) ++ List.replicate (7 : Int).toNat (.int 14)))
  generalize upd (upd (upd H4 p5 (.lst [.int 14])) p6 (.lst (List.replicate (7 : Int).toNat (.int 14)))) p7 (.lst (([.int 4, .int 8] ++ List.replicate (4 : Int).toNat (.int 4)) ++ List.replicate (7 : Int).toNat (.int 14))) = H7 at s7 e7 ⊢
  have e7 : H7 p7 = some (.lst ([4, 8, 4, 4, 4, 4, 14, 14, 14, 14, 14, 14, 14].map V.int)) := e7
  clear e64 s6 h6 h5 e4 s4 h4 s3 e31 h3 h2 h1
  walk_at "go"
  refine ⟨a, ns, k, p7, [4, 8, 4, 4, 4, 4, 14, 14, 14, 14, 14, 14, 14], rfl, s7.seq hS, hk, e7, by decide, by decide, fun t ds H1 ht0 et hdl hds s8 => ?_⟩
  have hdl : ds.length = 13 := hdl
  have s1 := s7.trans s8
  have hb1 := s1 _ _ hb
  clear s8 s7 e7 ht0
  have hg : ∀ (j : Nat) (h : j < ds.length), 0 ≤ ds[j] ∧ ds[j] < 14 := fun j h => by
    have hj : j < [4, 8, 4, 4, 4, 4, 14, 14, 14, 14, 14, 14, (14 : Int)].length := by rw [hdl] at h; exact h
    obtain ⟨x1, x2⟩ := hds j ds[j] [4, 8, 4, 4, 4, 4, 14, 14, 14, 14, 14, 14, (14 : Int)][j] (List.getElem?_eq_getElem h) (List.getElem?_eq_getElem hj)
    have : ∀ j (h : j < [4, 8, 4, 4, 4, 4, 14, 14, 14, 14, 14, 14, (14 : Int)].length), [4, 8, 4, 4, 4, 4, 14, 14, 14, 14, 14, 14, (14 : Int)][j] ≤ 14 := by decide
    have := this j hj
    exact ⟨x1, by omega⟩
  obtain ⟨hd0, hd1⟩ := hds 0 (ds[0]'(by omega)) 4 (List.getElem?_eq_getElem _) rfl
  have ad0 : atI (ds.map V.int) 0 = some (.int (ds[0]'(by omega))) := atI_of (by decide) (by rw [List.getElem?_map]; show Option.map V.int ds[0]? = _; rw [List.getElem?_eq_getElem (by omega)]; rfl)
  have ad1 : atI (ds.map V.int) 1 = some (.int (ds[1]'(by omega))) := atI_of (by decide) (by rw [List.getElem?_map]; show Option.map V.int ds[1]? = _; rw [List.getElem?_eq_getElem (by omega)]; rfl)
  generalize (ds[0]'(by omega)) = d0 at hd0 hd1 ad0
  generalize (ds[1]'(by omega)) = d1 at ad1
  walk_at "go"
  intro r hr0
  have hll : (lets l).length = l.length := by rw [lets, List.length_map]
  refine comp_range (fun i acc σ H' => ∃ (v : Option V) (ws : List Nat), σ = [some (.ref b), some (.ref t), v] ∧ acc = lets ws ∧ ws.length = i ∧ Low ws ∧ Same H1 H' ∧ H' r = some (.lst acc))
    ⟨none, [], rfl, rfl, rfl, (fun c hc => nomatch hc), same_new hr0 _, upd_same⟩ (fun i acc σ H' ⟨_, ws, _, e, e1, _, _, e2⟩ => ⟨e2, by rw [e, lets, List.length_map]; omega⟩) (szn (by omega)) ?_ ?_
  · rintro i acc σ H' hi ⟨v, ws, rfl, rfl, hw1, hw2, s2, e2⟩
    have hb2 := s2 _ _ hb1
    have et2 := s2 _ _ et
    have hjl : 2 + i < ds.length := by omega
    obtain ⟨hx0, hx1⟩ := hg (2 + i) hjl
    have adx : atI (ds.map V.int) (2 + (0 + (i : Int))) = some (.int ds[2 + i]) := atI_of (by omega) (by rw [show (2 + (0 + (i : Int))).toNat = 2 + i by omega, List.getElem?_map, List.getElem?_eq_getElem hjl]; rfl)
    generalize ds[2 + i] = dx at hx0 hx1 adx
    walk_at "go"
    rw [hll]
    have hc0 := Int.emod_nonneg dx (show (l.length : Int) ≠ 0 by omega)
    have hc1 := Int.emod_lt_of_pos dx (show (0 : Int) < (l.length : Int) by omega)
    generalize dx % (l.length : Int) = c at hc0 hc1 ⊢
    have hcl : c.toNat < l.length := by omega
    refine i_ixR (v := .str (S [l[c.toNat]])) (seqR_lst hb2) (atI_of hc0 (by rw [lets, List.getElem?_map, List.getElem?_eq_getElem hcl]; rfl)) ?_
    refine ⟨e2, _, ws ++ [l[c.toNat]], rfl, by rw [lets, lets, List.map_append]; rfl, by rw [List.length_append, hw1]; rfl, Low_append hw2 (fun x hx => ?_), fun b o e => ?_, upd_same⟩
    · have : x = l[c.toNat] := by simpa using hx
      rw [this]
      exact hl _ (List.getElem_mem _)
    · have hbr : b ≠ r := fun z => by rw [z, hr0] at e; cases e
      rw [upd_ne hbr]; exact s2 b o e
  · rintro acc σ H2 ⟨v, ws, rfl, rfl, hw1, hw2, s2, e2⟩
    have et2 := s2 _ _ et
    walk_at "go"
    have hs := sum_one ws
    refine i_join (ys := ws.map fun c => S [c]) (by rw [← map_one]; exact lstR_of e2) ?_ ?_
    · rw [hs, List.length_map, S_length]
      simp only [List.length_nil, Nat.mul_zero]
      omega
    rw [joined_one]
    have hws : 1 ≤ ws.length ∧ ws.length ≤ 4 := by omega
    have hwc := Low_lt hw2
    have s12 := s1.trans s2
    clear hs e2 hw1 hr0 s2
    walk_at "go"
    intro c1 hc1
    have s3 := same_new hc1 (.tup [.int 1, .int 3])
    have et3 := s3 _ _ et2
    refine i_inR (seqR_tup upd_same) ⟨rfl, rfl⟩ ?_
    have s13 := s12.trans s3
    generalize upd H2 c1 (.tup [.int 1, .int 3]) = H3 at s3 et3 s13 ⊢
    walk_at "go"
    refine iteB (fun q1 => ?_) (fun q1 => ?_)
    · walk_at "go"
      have hw' : 1 ≤ ([46] ++ ws).length ∧ ([46] ++ ws).length ≤ 5 := by simp only [List.length_append, List.length_cons, List.length_nil]; omega
      have hwc' : ∀ c ∈ [46] ++ ws, c < 128 := fun c hc => by
        rcases List.mem_append.mp hc with h | h
        · have : c = 46 := by simpa using h
          omega
        · exact hwc c h
      generalize [46] ++ ws = w1 at hw' hwc' ⊢
      intro c2 hc2
      have s4 := same_new hc2 (.tup [.int 2, .int 3])
      have et4 := s4 _ _ et3
      refine i_inR (seqR_tup upd_same) ⟨rfl, rfl⟩ ?_
      have s14 := s13.trans s4
      generalize upd H3 c2 (.tup [.int 2, .int 3]) = H4 at s4 et4 s14 ⊢
      walk_at "go"
      refine iteB (fun q2 => ?_) (fun q2 => ?_)
      · walk_at "go"
        have hw2' : 1 ≤ (w1 ++ [46]).length ∧ (w1 ++ [46]).length ≤ 6 := by simp only [List.length_append, List.length_cons, List.length_nil]; omega
        have hwc2 : ∀ c ∈ w1 ++ [46], c < 128 := fun c hc => by
          rcases List.mem_append.mp hc with h | h
          · exact hwc' c h
          · have : c = 46 := by simpa using h
            omega
        generalize w1 ++ [46] = w2 at hw2' hwc2 ⊢
        refine i_slL (SqL.of et4) fun g hg0 => ?_
        rw [cutV_eq, cutA_map]
        have hcl := cut_length ds (some 6) (some (7 + (w2.length : Int)))
        have hx1 : sx ds.length 0 (some 6) = 6 := by simp only [sx]; rw [if_neg (by decide)]; show min 6 ds.length = 6; omega
        have hx2 : sx ds.length ds.length (some (7 + (w2.length : Int))) = 7 + w2.length := by simp only [sx]; rw [if_neg (by omega)]; omega
        rw [hx1, hx2] at hcl
        have hcm : ∀ v ∈ cutA ds (some 6) (some (7 + (w2.length : Int))), 0 ≤ v ∧ v < 14 := fun v hv => by
          have := List.mem_of_mem_drop (List.mem_of_mem_take hv)
          obtain ⟨j, hj, rfl⟩ := List.mem_iff_getElem.mp this
          exact hg j hj
        generalize cutA ds (some 6) (some (7 + (w2.length : Int))) = cs at hcl hcm ⊢
        have s5 := same_new hg0 (.lst (cs.map V.int))
        have e5 := upd_same (H := H4) (a := g) (o := .lst (cs.map V.int))
        have s15 := s14.trans s5
        generalize upd H4 g (.lst (cs.map V.int)) = H5 at s5 e5 s15 ⊢
        walk_at "go"
        intro n hn0
        refine comp_list (K := K) (xs := cs.map V.int) (fun j acc σ H' => ∃ (v : Option V) (us : List Int), σ = [v] ∧ acc = us.map V.int ∧ us.length = j ∧ (∀ u ∈ us, 0 ≤ u ∧ u ≤ 9) ∧ H' n = some (.lst acc) ∧ Same H5 H')
          (fun j acc σ H' _ ⟨_, _, _, _, _, _, _, s3⟩ => SqL.of (s3 _ _ e5)) ⟨none, [], rfl, rfl, rfl, (fun u hu => nomatch hu), upd_same, same_new hn0 _⟩ (fun j acc σ H' ⟨_, us, _, e, e1, _, e3, _⟩ => ⟨e3, by rw [e, List.length_map]; omega⟩) (szn (by rw [List.length_map]; omega)) ?_ ?_
        · rintro j acc σ H6 hj ⟨v, us, rfl, rfl, hul, hus, e6, s6⟩
          have hj' : j < cs.length := by simpa using hj
          have hgd : (cs.map V.int).getD j .non = V.int cs[j] := by
            rw [List.getD_eq_getElem?_getD, List.getElem?_map, List.getElem?_eq_getElem hj']; rfl
          rw [hgd]
          obtain ⟨hu0, hu1⟩ := hcm _ (List.getElem_mem hj')
          generalize cs[j] = u at hu0 hu1 ⊢
          have hmu : CMul u (if decide (u < 10) = true then 1 else 0) := CMul.l (by omega) (by omega)
          walk_at "go"
          try refine i_mulI hmu ?_
          refine ⟨e6, _, us ++ [u * (if decide (u < 10) = true then 1 else 0)], rfl, by rw [List.map_append]; rfl, by simp [hul], fun x hx => ?_, upd_same, fun b' o e => ?_⟩
          · rcases List.mem_append.mp hx with h | h
            · exact hus x h
            · have : x = u * (if decide (u < 10) = true then 1 else 0) := by simpa using h
              rw [this]
              by_cases hu : u < 10
              · rw [if_pos (decide_eq_true hu)]; omega
              · rw [if_neg (by simp [hu])]; omega
          · have hbr : b' ≠ n := fun z => by rw [z, hn0] at e; cases e
            rw [upd_ne hbr]; exact s6 b' o e
        · rintro acc σ H6 ⟨v, us, rfl, rfl, hul, hus, e6, s6⟩
          have hul : us.length = w2.length + 1 := by rw [hul, List.length_map, hcl]; omega
          have s16 := s15.trans s6
          have hnH : H n = none := s15.free hn0
          clear e5 s5 s6 s15 hn0 hcm hcl et4 et3 et2 s14 s13 s12 s4 s3
          have fin : ∀ (us' : List Int) (H7 : Hp), us'.length = w2.length + 1 → (∀ u ∈ us', 0 ≤ u ∧ u ≤ 9) → Same H H7 → H7 n = some (.lst (us'.map V.int)) → ∀ (t' : Addr) (H8 : Hp), H8 t' = some (.tup (us'.map V.int)) → Same H7 H8 → ∀ p, H8 p = none → Q (.ref p) (upd H8 p (.tup [.str (S w2), .ref t'])) := fun us' H7 h1 h2 h3 h4 t' H8 h5 h6 p hp =>
            q _ (w2, us') _ (isPat_mk upd_same ((same_new hp _) _ _ h5)) ⟨hw2'.1, by show w2.length ≤ 22; omega, h1, h2, hwc2⟩ hw2'.2 ((h3.trans h6).trans (same_new hp _))
          have hset : ∀ (us' : List Int) (j : Nat), (∀ u ∈ us', 0 ≤ u ∧ u ≤ 9) → ∀ u ∈ us'.set j 0, 0 ≤ u ∧ u ≤ 9 := fun us' j h u hu => by
            rcases List.mem_or_eq_of_mem_set hu with h' | h'
            · exact h u h'
            · subst h'; decide
          have hup : ∀ (H7 : Hp) (o : HO), Same H H7 → Same H (upd H7 n o) := fun H7 o h b' o' e => by
            have hbn : b' ≠ n := fun z => by rw [z, hnH] at e; cases e
            rw [upd_ne hbn]; exact h b' o' e
          have hlw : (S w2).length ≤ sizeLine := szn (by rw [S_length]; omega)
          have hlast : atI (S w2).cps.toList (-1) = some (w2[w2.length - 1]'(by omega)) := by
            unfold atI ixN
            rw [S_cps, if_neg (by decide), if_pos (by omega)]
            show w2[(-1 + (w2.length : Int)).toNat]? = _
            rw [show (-1 + (w2.length : Int)).toNat = w2.length - 1 by omega, List.getElem?_eq_getElem]
          have hset1 : ∀ us' : List Int, us'.length = w2.length + 1 → ixN (us'.map V.int).length (-1) = some w2.length := fun us' h => by
            unfold ixN
            rw [List.length_map, if_neg (by decide), if_pos (by omega)]
            congr 1; omega
          walk_at "go"
          refine i_ixS (c := w2[0]'(by omega)) hlw (atI_of (by decide) (by rw [S_cps]; show w2[0]? = _; rw [List.getElem?_eq_getElem])) ?_
          walk_at "go"
          refine iteD (fun q3 => ?_) (fun q3 => ?_)
          · walk_at "go"
            refine i_set (j := 0) e6 (by unfold ixN; rw [List.length_map, if_pos (by decide), if_pos (by omega)]; rfl) ?_
            rw [show (us.map V.int).set 0 (V.int 0) = (us.set 0 0).map V.int from (List.map_set ..).symm]
            have e7 := upd_same (H := H6) (a := n) (o := .lst ((us.set 0 0).map V.int))
            have s17 := hup H6 (.lst ((us.set 0 0).map V.int)) s16
            generalize upd H6 n (.lst ((us.set 0 0).map V.int)) = H7 at e7 s17 ⊢
            walk_at "go"
            refine i_ixS hlw hlast ?_
            walk_at "go"
            refine iteD (fun q4 => ?_) (fun q4 => ?_)
            · walk_at "go"
              refine i_set (j := w2.length) e7 (hset1 _ (by rw [List.length_set]; exact hul)) ?_
              rw [show ((us.set 0 0).map V.int).set w2.length (V.int 0) = ((us.set 0 0).set w2.length 0).map V.int from (List.map_set ..).symm]
              walk_at "go"
              refine i_tupleR (seqR_lst upd_same) fun t' H8 ht' s8 => ?_
              walk_at "go"
              exact fin _ _ (by rw [List.length_set, List.length_set]; exact hul) (hset _ _ (hset _ _ hus)) (hup _ _ s17) upd_same t' H8 ht' s8
            · walk_at "go"
              refine i_tupleR (seqR_lst e7) fun t' H8 ht' s8 => ?_
              walk_at "go"
              exact fin _ _ (by rw [List.length_set]; exact hul) (hset _ _ hus) s17 e7 t' H8 ht' s8
          · walk_at "go"
            refine i_ixS hlw hlast ?_
            walk_at "go"
            refine iteD (fun q4 => ?_) (fun q4 => ?_)
            · walk_at "go"
              refine i_set (j := w2.length) e6 (hset1 _ hul) ?_
              rw [show (us.map V.int).set w2.length (V.int 0) = (us.set w2.length 0).map V.int from (List.map_set ..).symm]
              walk_at "go"
              refine i_tupleR (seqR_lst upd_same) fun t' H8 ht' s8 => ?_
              walk_at "go"
              exact fin _ _ (by rw [List.length_set]; exact hul) (hset _ _ hus) (hup _ _ s16) upd_same t' H8 ht' s8
            · walk_at "go"
              refine i_tupleR (seqR_lst e6) fun t' H8 ht' s8 => ?_
              walk_at "go"
              exact fin _ _ hul hus s16 e6 t' H8 ht' s8
      · walk_at "go"
        have hw2' : 1 ≤ w1.length ∧ w1.length ≤ 6 := by omega
        have hwc2 := hwc'
        generalize w1 = w2 at hw2' hwc2 ⊢
        refine i_slL (SqL.of et4) fun g hg0 => ?_
        rw [cutV_eq, cutA_map]
        have hcl := cut_length ds (some 6) (some (7 + (w2.length : Int)))
        have hx1 : sx ds.length 0 (some 6) = 6 := by simp only [sx]; rw [if_neg (by decide)]; show min 6 ds.length = 6; omega
        have hx2 : sx ds.length ds.length (some (7 + (w2.length : Int))) = 7 + w2.length := by simp only [sx]; rw [if_neg (by omega)]; omega
        rw [hx1, hx2] at hcl
        have hcm : ∀ v ∈ cutA ds (some 6) (some (7 + (w2.length : Int))), 0 ≤ v ∧ v < 14 := fun v hv => by
          have := List.mem_of_mem_drop (List.mem_of_mem_take hv)
          obtain ⟨j, hj, rfl⟩ := List.mem_iff_getElem.mp this
          exact hg j hj
        generalize cutA ds (some 6) (some (7 + (w2.length : Int))) = cs at hcl hcm ⊢
        have s5 := same_new hg0 (.lst (cs.map V.int))
        have e5 := upd_same (H := H4) (a := g) (o := .lst (cs.map V.int))
        have s15 := s14.trans s5
        generalize upd H4 g (.lst (cs.map V.int)) = H5 at s5 e5 s15 ⊢
        walk_at "go"
        intro n hn0
        refine comp_list (K := K) (xs := cs.map V.int) (fun j acc σ H' => ∃ (v : Option V) (us : List Int), σ = [v] ∧ acc = us.map V.int ∧ us.length = j ∧ (∀ u ∈ us, 0 ≤ u ∧ u ≤ 9) ∧ H' n = some (.lst acc) ∧ Same H5 H')
          (fun j acc σ H' _ ⟨_, _, _, _, _, _, _, s3⟩ => SqL.of (s3 _ _ e5)) ⟨none, [], rfl, rfl, rfl, (fun u hu => nomatch hu), upd_same, same_new hn0 _⟩ (fun j acc σ H' ⟨_, us, _, e, e1, _, e3, _⟩ => ⟨e3, by rw [e, List.length_map]; omega⟩) (szn (by rw [List.length_map]; omega)) ?_ ?_
        · rintro j acc σ H6 hj ⟨v, us, rfl, rfl, hul, hus, e6, s6⟩
          have hj' : j < cs.length := by simpa using hj
          have hgd : (cs.map V.int).getD j .non = V.int cs[j] := by
            rw [List.getD_eq_getElem?_getD, List.getElem?_map, List.getElem?_eq_getElem hj']; rfl
          rw [hgd]
          obtain ⟨hu0, hu1⟩ := hcm _ (List.getElem_mem hj')
          generalize cs[j] = u at hu0 hu1 ⊢
          have hmu : CMul u (if decide (u < 10) = true then 1 else 0) := CMul.l (by omega) (by omega)
          walk_at "go"
          try refine i_mulI hmu ?_
          refine ⟨e6, _, us ++ [u * (if decide (u < 10) = true then 1 else 0)], rfl, by rw [List.map_append]; rfl, by simp [hul], fun x hx => ?_, upd_same, fun b' o e => ?_⟩
          · rcases List.mem_append.mp hx with h | h
            · exact hus x h
            · have : x = u * (if decide (u < 10) = true then 1 else 0) := by simpa using h
              rw [this]
              by_cases hu : u < 10
              · rw [if_pos (decide_eq_true hu)]; omega
              · rw [if_neg (by simp [hu])]; omega
          · have hbr : b' ≠ n := fun z => by rw [z, hn0] at e; cases e
            rw [upd_ne hbr]; exact s6 b' o e
        · rintro acc σ H6 ⟨v, us, rfl, rfl, hul, hus, e6, s6⟩
          have hul : us.length = w2.length + 1 := by rw [hul, List.length_map, hcl]; omega
          have s16 := s15.trans s6
          have hnH : H n = none := s15.free hn0
          clear e5 s5 s6 s15 hn0 hcm hcl et4 et3 et2 s14 s13 s12 s4 s3
          have fin : ∀ (us' : List Int) (H7 : Hp), us'.length = w2.length + 1 → (∀ u ∈ us', 0 ≤ u ∧ u ≤ 9) → Same H H7 → H7 n = some (.lst (us'.map V.int)) → ∀ (t' : Addr) (H8 : Hp), H8 t' = some (.tup (us'.map V.int)) → Same H7 H8 → ∀ p, H8 p = none → Q (.ref p) (upd H8 p (.tup [.str (S w2), .ref t'])) := fun us' H7 h1 h2 h3 h4 t' H8 h5 h6 p hp =>
            q _ (w2, us') _ (isPat_mk upd_same ((same_new hp _) _ _ h5)) ⟨hw2'.1, by show w2.length ≤ 22; omega, h1, h2, hwc2⟩ hw2'.2 ((h3.trans h6).trans (same_new hp _))
          have hset : ∀ (us' : List Int) (j : Nat), (∀ u ∈ us', 0 ≤ u ∧ u ≤ 9) → ∀ u ∈ us'.set j 0, 0 ≤ u ∧ u ≤ 9 := fun us' j h u hu => by
            rcases List.mem_or_eq_of_mem_set hu with h' | h'
            · exact h u h'
            · subst h'; decide
          have hup : ∀ (H7 : Hp) (o : HO), Same H H7 → Same H (upd H7 n o) := fun H7 o h b' o' e => by
            have hbn : b' ≠ n := fun z => by rw [z, hnH] at e; cases e
            rw [upd_ne hbn]; exact h b' o' e
          have hlw : (S w2).length ≤ sizeLine := szn (by rw [S_length]; omega)
          have hlast : atI (S w2).cps.toList (-1) = some (w2[w2.length - 1]'(by omega)) := by
            unfold atI ixN
            rw [S_cps, if_neg (by decide), if_pos (by omega)]
            show w2[(-1 + (w2.length : Int)).toNat]? = _
            rw [show (-1 + (w2.length : Int)).toNat = w2.length - 1 by omega, List.getElem?_eq_getElem]
          have hset1 : ∀ us' : List Int, us'.length = w2.length + 1 → ixN (us'.map V.int).length (-1) = some w2.length := fun us' h => by
            unfold ixN
            rw [List.length_map, if_neg (by decide), if_pos (by omega)]
            congr 1; omega
          walk_at "go"
          refine i_ixS (c := w2[0]'(by omega)) hlw (atI_of (by decide) (by rw [S_cps]; show w2[0]? = _; rw [List.getElem?_eq_getElem])) ?_
          walk_at "go"
          refine iteD (fun q3 => ?_) (fun q3 => ?_)
          · walk_at "go"
            refine i_set (j := 0) e6 (by unfold ixN; rw [List.length_map, if_pos (by decide), if_pos (by omega)]; rfl) ?_
            rw [show (us.map V.int).set 0 (V.int 0) = (us.set 0 0).map V.int from (List.map_set ..).symm]
            have e7 := upd_same (H := H6) (a := n) (o := .lst ((us.set 0 0).map V.int))
            have s17 := hup H6 (.lst ((us.set 0 0).map V.int)) s16
            generalize upd H6 n (.lst ((us.set 0 0).map V.int)) = H7 at e7 s17 ⊢
            walk_at "go"
            refine i_ixS hlw hlast ?_
            walk_at "go"
            refine iteD (fun q4 => ?_) (fun q4 => ?_)
            · walk_at "go"
              refine i_set (j := w2.length) e7 (hset1 _ (by rw [List.length_set]; exact hul)) ?_
              rw [show ((us.set 0 0).map V.int).set w2.length (V.int 0) = ((us.set 0 0).set w2.length 0).map V.int from (List.map_set ..).symm]
              walk_at "go"
              refine i_tupleR (seqR_lst upd_same) fun t' H8 ht' s8 => ?_
              walk_at "go"
              exact fin _ _ (by rw [List.length_set, List.length_set]; exact hul) (hset _ _ (hset _ _ hus)) (hup _ _ s17) upd_same t' H8 ht' s8
            · walk_at "go"
              refine i_tupleR (seqR_lst e7) fun t' H8 ht' s8 => ?_
              walk_at "go"
              exact fin _ _ (by rw [List.length_set]; exact hul) (hset _ _ hus) s17 e7 t' H8 ht' s8
          · walk_at "go"
            refine i_ixS hlw hlast ?_
            walk_at "go"
            refine iteD (fun q4 => ?_) (fun q4 => ?_)
            · walk_at "go"
              refine i_set (j := w2.length) e6 (hset1 _ hul) ?_
              rw [show (us.map V.int).set w2.length (V.int 0) = (us.set w2.length 0).map V.int from (List.map_set ..).symm]
              walk_at "go"
              refine i_tupleR (seqR_lst upd_same) fun t' H8 ht' s8 => ?_
              walk_at "go"
              exact fin _ _ (by rw [List.length_set]; exact hul) (hset _ _ hus) (hup _ _ s16) upd_same t' H8 ht' s8
            · walk_at "go"
              refine i_tupleR (seqR_lst e6) fun t' H8 ht' s8 => ?_
              walk_at "go"
              exact fin _ _ hul hus s16 e6 t' H8 ht' s8
    · walk_at "go"
      have hw' : 1 ≤ ws.length ∧ ws.length ≤ 5 := by omega
      have hwc' := hwc
      generalize ws = w1 at hw' hwc' ⊢
      intro c2 hc2
      have s4 := same_new hc2 (.tup [.int 2, .int 3])
      have et4 := s4 _ _ et3
      refine i_inR (seqR_tup upd_same) ⟨rfl, rfl⟩ ?_
      have s14 := s13.trans s4
      generalize upd H3 c2 (.tup [.int 2, .int 3]) = H4 at s4 et4 s14 ⊢
      walk_at "go"
      refine iteB (fun q2 => ?_) (fun q2 => ?_)
      · walk_at "go"
        have hw2' : 1 ≤ (w1 ++ [46]).length ∧ (w1 ++ [46]).length ≤ 6 := by simp only [List.length_append, List.length_cons, List.length_nil]; omega
        have hwc2 : ∀ c ∈ w1 ++ [46], c < 128 := fun c hc => by
          rcases List.mem_append.mp hc with h | h
          · exact hwc' c h
          · have : c = 46 := by simpa using h
            omega
        generalize w1 ++ [46] = w2 at hw2' hwc2 ⊢
        refine i_slL (SqL.of et4) fun g hg0 => ?_
        rw [cutV_eq, cutA_map]
        have hcl := cut_length ds (some 6) (some (7 + (w2.length : Int)))
        have hx1 : sx ds.length 0 (some 6) = 6 := by simp only [sx]; rw [if_neg (by decide)]; show min 6 ds.length = 6; omega
        have hx2 : sx ds.length ds.length (some (7 + (w2.length : Int))) = 7 + w2.length := by simp only [sx]; rw [if_neg (by omega)]; omega
        rw [hx1, hx2] at hcl
        have hcm : ∀ v ∈ cutA ds (some 6) (some (7 + (w2.length : Int))), 0 ≤ v ∧ v < 14 := fun v hv => by
          have := List.mem_of_mem_drop (List.mem_of_mem_take hv)
          obtain ⟨j, hj, rfl⟩ := List.mem_iff_getElem.mp this
          exact hg j hj
        generalize cutA ds (some 6) (some (7 + (w2.length : Int))) = cs at hcl hcm ⊢
        have s5 := same_new hg0 (.lst (cs.map V.int))
        have e5 := upd_same (H := H4) (a := g) (o := .lst (cs.map V.int))
        have s15 := s14.trans s5
        generalize upd H4 g (.lst (cs.map V.int)) = H5 at s5 e5 s15 ⊢
        walk_at "go"
        intro n hn0
        refine comp_list (K := K) (xs := cs.map V.int) (fun j acc σ H' => ∃ (v : Option V) (us : List Int), σ = [v] ∧ acc = us.map V.int ∧ us.length = j ∧ (∀ u ∈ us, 0 ≤ u ∧ u ≤ 9) ∧ H' n = some (.lst acc) ∧ Same H5 H')
          (fun j acc σ H' _ ⟨_, _, _, _, _, _, _, s3⟩ => SqL.of (s3 _ _ e5)) ⟨none, [], rfl, rfl, rfl, (fun u hu => nomatch hu), upd_same, same_new hn0 _⟩ (fun j acc σ H' ⟨_, us, _, e, e1, _, e3, _⟩ => ⟨e3, by rw [e, List.length_map]; omega⟩) (szn (by rw [List.length_map]; omega)) ?_ ?_
        · rintro j acc σ H6 hj ⟨v, us, rfl, rfl, hul, hus, e6, s6⟩
          have hj' : j < cs.length := by simpa using hj
          have hgd : (cs.map V.int).getD j .non = V.int cs[j] := by
            rw [List.getD_eq_getElem?_getD, List.getElem?_map, List.getElem?_eq_getElem hj']; rfl
          rw [hgd]
          obtain ⟨hu0, hu1⟩ := hcm _ (List.getElem_mem hj')
          generalize cs[j] = u at hu0 hu1 ⊢
          have hmu : CMul u (if decide (u < 10) = true then 1 else 0) := CMul.l (by omega) (by omega)
          walk_at "go"
          try refine i_mulI hmu ?_
          refine ⟨e6, _, us ++ [u * (if decide (u < 10) = true then 1 else 0)], rfl, by rw [List.map_append]; rfl, by simp [hul], fun x hx => ?_, upd_same, fun b' o e => ?_⟩
          · rcases List.mem_append.mp hx with h | h
            · exact hus x h
            · have : x = u * (if decide (u < 10) = true then 1 else 0) := by simpa using h
              rw [this]
              by_cases hu : u < 10
              · rw [if_pos (decide_eq_true hu)]; omega
              · rw [if_neg (by simp [hu])]; omega
          · have hbr : b' ≠ n := fun z => by rw [z, hn0] at e; cases e
            rw [upd_ne hbr]; exact s6 b' o e
        · rintro acc σ H6 ⟨v, us, rfl, rfl, hul, hus, e6, s6⟩
          have hul : us.length = w2.length + 1 := by rw [hul, List.length_map, hcl]; omega
          have s16 := s15.trans s6
          have hnH : H n = none := s15.free hn0
          clear e5 s5 s6 s15 hn0 hcm hcl et4 et3 et2 s14 s13 s12 s4 s3
          have fin : ∀ (us' : List Int) (H7 : Hp), us'.length = w2.length + 1 → (∀ u ∈ us', 0 ≤ u ∧ u ≤ 9) → Same H H7 → H7 n = some (.lst (us'.map V.int)) → ∀ (t' : Addr) (H8 : Hp), H8 t' = some (.tup (us'.map V.int)) → Same H7 H8 → ∀ p, H8 p = none → Q (.ref p) (upd H8 p (.tup [.str (S w2), .ref t'])) := fun us' H7 h1 h2 h3 h4 t' H8 h5 h6 p hp =>
            q _ (w2, us') _ (isPat_mk upd_same ((same_new hp _) _ _ h5)) ⟨hw2'.1, by show w2.length ≤ 22; omega, h1, h2, hwc2⟩ hw2'.2 ((h3.trans h6).trans (same_new hp _))
          have hset : ∀ (us' : List Int) (j : Nat), (∀ u ∈ us', 0 ≤ u ∧ u ≤ 9) → ∀ u ∈ us'.set j 0, 0 ≤ u ∧ u ≤ 9 := fun us' j h u hu => by
            rcases List.mem_or_eq_of_mem_set hu with h' | h'
            · exact h u h'
            · subst h'; decide
          have hup : ∀ (H7 : Hp) (o : HO), Same H H7 → Same H (upd H7 n o) := fun H7 o h b' o' e => by
            have hbn : b' ≠ n := fun z => by rw [z, hnH] at e; cases e
            rw [upd_ne hbn]; exact h b' o' e
          have hlw : (S w2).length ≤ sizeLine := szn (by rw [S_length]; omega)
          have hlast : atI (S w2).cps.toList (-1) = some (w2[w2.length - 1]'(by omega)) := by
            unfold atI ixN
            rw [S_cps, if_neg (by decide), if_pos (by omega)]
            show w2[(-1 + (w2.length : Int)).toNat]? = _
            rw [show (-1 + (w2.length : Int)).toNat = w2.length - 1 by omega, List.getElem?_eq_getElem]
          have hset1 : ∀ us' : List Int, us'.length = w2.length + 1 → ixN (us'.map V.int).length (-1) = some w2.length := fun us' h => by
            unfold ixN
            rw [List.length_map, if_neg (by decide), if_pos (by omega)]
            congr 1; omega
          walk_at "go"
          refine i_ixS (c := w2[0]'(by omega)) hlw (atI_of (by decide) (by rw [S_cps]; show w2[0]? = _; rw [List.getElem?_eq_getElem])) ?_
          walk_at "go"
          refine iteD (fun q3 => ?_) (fun q3 => ?_)
          · walk_at "go"
            refine i_set (j := 0) e6 (by unfold ixN; rw [List.length_map, if_pos (by decide), if_pos (by omega)]; rfl) ?_
            rw [show (us.map V.int).set 0 (V.int 0) = (us.set 0 0).map V.int from (List.map_set ..).symm]
            have e7 := upd_same (H := H6) (a := n) (o := .lst ((us.set 0 0).map V.int))
            have s17 := hup H6 (.lst ((us.set 0 0).map V.int)) s16
            generalize upd H6 n (.lst ((us.set 0 0).map V.int)) = H7 at e7 s17 ⊢
            walk_at "go"
            refine i_ixS hlw hlast ?_
            walk_at "go"
            refine iteD (fun q4 => ?_) (fun q4 => ?_)
            · walk_at "go"
              refine i_set (j := w2.length) e7 (hset1 _ (by rw [List.length_set]; exact hul)) ?_
              rw [show ((us.set 0 0).map V.int).set w2.length (V.int 0) = ((us.set 0 0).set w2.length 0).map V.int from (List.map_set ..).symm]
              walk_at "go"
              refine i_tupleR (seqR_lst upd_same) fun t' H8 ht' s8 => ?_
              walk_at "go"
              exact fin _ _ (by rw [List.length_set, List.length_set]; exact hul) (hset _ _ (hset _ _ hus)) (hup _ _ s17) upd_same t' H8 ht' s8
            · walk_at "go"
              refine i_tupleR (seqR_lst e7) fun t' H8 ht' s8 => ?_
              walk_at "go"
              exact fin _ _ (by rw [List.length_set]; exact hul) (hset _ _ hus) s17 e7 t' H8 ht' s8
          · walk_at "go"
            refine i_ixS hlw hlast ?_
            walk_at "go"
            refine iteD (fun q4 => ?_) (fun q4 => ?_)
            · walk_at "go"
              refine i_set (j := w2.length) e6 (hset1 _ hul) ?_
              rw [show (us.map V.int).set w2.length (V.int 0) = (us.set w2.length 0).map V.int from (List.map_set ..).symm]
              walk_at "go"
              refine i_tupleR (seqR_lst upd_same) fun t' H8 ht' s8 => ?_
              walk_at "go"
              exact fin _ _ (by rw [List.length_set]; exact hul) (hset _ _ hus) (hup _ _ s16) upd_same t' H8 ht' s8
            · walk_at "go"
              refine i_tupleR (seqR_lst e6) fun t' H8 ht' s8 => ?_
              walk_at "go"
              exact fin _ _ hul hus s16 e6 t' H8 ht' s8
      · walk_at "go"
        have hw2' : 1 ≤ w1.length ∧ w1.length ≤ 6 := by omega
        have hwc2 := hwc'
        generalize w1 = w2 at hw2' hwc2 ⊢
        refine i_slL (SqL.of et4) fun g hg0 => ?_
        rw [cutV_eq, cutA_map]
        have hcl := cut_length ds (some 6) (some (7 + (w2.length : Int)))
        have hx1 : sx ds.length 0 (some 6) = 6 := by simp only [sx]; rw [if_neg (by decide)]; show min 6 ds.length = 6; omega
        have hx2 : sx ds.length ds.length (some (7 + (w2.length : Int))) = 7 + w2.length := by simp only [sx]; rw [if_neg (by omega)]; omega
        rw [hx1, hx2] at hcl
        have hcm : ∀ v ∈ cutA ds (some 6) (some (7 + (w2.length : Int))), 0 ≤ v ∧ v < 14 := fun v hv => by
          have := List.mem_of_mem_drop (List.mem_of_mem_take hv)
          obtain ⟨j, hj, rfl⟩ := List.mem_iff_getElem.mp this
          exact hg j hj
        generalize cutA ds (some 6) (some (7 + (w2.length : Int))) = cs at hcl hcm ⊢
        have s5 := same_new hg0 (.lst (cs.map V.int))
        have e5 := upd_same (H := H4) (a := g) (o := .lst (cs.map V.int))
        have s15 := s14.trans s5
        generalize upd H4 g (.lst (cs.map V.int)) = H5 at s5 e5 s15 ⊢
        walk_at "go"
        intro n hn0
        refine comp_list (K := K) (xs := cs.map V.int) (fun j acc σ H' => ∃ (v : Option V) (us : List Int), σ = [v] ∧ acc = us.map V.int ∧ us.length = j ∧ (∀ u ∈ us, 0 ≤ u ∧ u ≤ 9) ∧ H' n = some (.lst acc) ∧ Same H5 H')
          (fun j acc σ H' _ ⟨_, _, _, _, _, _, _, s3⟩ => SqL.of (s3 _ _ e5)) ⟨none, [], rfl, rfl, rfl, (fun u hu => nomatch hu), upd_same, same_new hn0 _⟩ (fun j acc σ H' ⟨_, us, _, e, e1, _, e3, _⟩ => ⟨e3, by rw [e, List.length_map]; omega⟩) (szn (by rw [List.length_map]; omega)) ?_ ?_
        · rintro j acc σ H6 hj ⟨v, us, rfl, rfl, hul, hus, e6, s6⟩
          have hj' : j < cs.length := by simpa using hj
          have hgd : (cs.map V.int).getD j .non = V.int cs[j] := by
            rw [List.getD_eq_getElem?_getD, List.getElem?_map, List.getElem?_eq_getElem hj']; rfl
          rw [hgd]
          obtain ⟨hu0, hu1⟩ := hcm _ (List.getElem_mem hj')
          generalize cs[j] = u at hu0 hu1 ⊢
          have hmu : CMul u (if decide (u < 10) = true then 1 else 0) := CMul.l (by omega) (by omega)
          walk_at "go"
          try refine i_mulI hmu ?_
          refine ⟨e6, _, us ++ [u * (if decide (u < 10) = true then 1 else 0)], rfl, by rw [List.map_append]; rfl, by simp [hul], fun x hx => ?_, upd_same, fun b' o e => ?_⟩
          · rcases List.mem_append.mp hx with h | h
            · exact hus x h
            · have : x = u * (if decide (u < 10) = true then 1 else 0) := by simpa using h
              rw [this]
              by_cases hu : u < 10
              · rw [if_pos (decide_eq_true hu)]; omega
              · rw [if_neg (by simp [hu])]; omega
          · have hbr : b' ≠ n := fun z => by rw [z, hn0] at e; cases e
            rw [upd_ne hbr]; exact s6 b' o e
        · rintro acc σ H6 ⟨v, us, rfl, rfl, hul, hus, e6, s6⟩
          have hul : us.length = w2.length + 1 := by rw [hul, List.length_map, hcl]; omega
          have s16 := s15.trans s6
          have hnH : H n = none := s15.free hn0
          clear e5 s5 s6 s15 hn0 hcm hcl et4 et3 et2 s14 s13 s12 s4 s3
          have fin : ∀ (us' : List Int) (H7 : Hp), us'.length = w2.length + 1 → (∀ u ∈ us', 0 ≤ u ∧ u ≤ 9) → Same H H7 → H7 n = some (.lst (us'.map V.int)) → ∀ (t' : Addr) (H8 : Hp), H8 t' = some (.tup (us'.map V.int)) → Same H7 H8 → ∀ p, H8 p = none → Q (.ref p) (upd H8 p (.tup [.str (S w2), .ref t'])) := fun us' H7 h1 h2 h3 h4 t' H8 h5 h6 p hp =>
            q _ (w2, us') _ (isPat_mk upd_same ((same_new hp _) _ _ h5)) ⟨hw2'.1, by show w2.length ≤ 22; omega, h1, h2, hwc2⟩ hw2'.2 ((h3.trans h6).trans (same_new hp _))
          have hset : ∀ (us' : List Int) (j : Nat), (∀ u ∈ us', 0 ≤ u ∧ u ≤ 9) → ∀ u ∈ us'.set j 0, 0 ≤ u ∧ u ≤ 9 := fun us' j h u hu => by
            rcases List.mem_or_eq_of_mem_set hu with h' | h'
            · exact h u h'
            · subst h'; decide
          have hup : ∀ (H7 : Hp) (o : HO), Same H H7 → Same H (upd H7 n o) := fun H7 o h b' o' e => by
            have hbn : b' ≠ n := fun z => by rw [z, hnH] at e; cases e
            rw [upd_ne hbn]; exact h b' o' e
          have hlw : (S w2).length ≤ sizeLine := szn (by rw [S_length]; omega)
          have hlast : atI (S w2).cps.toList (-1) = some (w2[w2.length - 1]'(by omega)) := by
            unfold atI ixN
            rw [S_cps, if_neg (by decide), if_pos (by omega)]
            show w2[(-1 + (w2.length : Int)).toNat]? = _
            rw [show (-1 + (w2.length : Int)).toNat = w2.length - 1 by omega, List.getElem?_eq_getElem]
          have hset1 : ∀ us' : List Int, us'.length = w2.length + 1 → ixN (us'.map V.int).length (-1) = some w2.length := fun us' h => by
            unfold ixN
            rw [List.length_map, if_neg (by decide), if_pos (by omega)]
            congr 1; omega
          walk_at "go"
          refine i_ixS (c := w2[0]'(by omega)) hlw (atI_of (by decide) (by rw [S_cps]; show w2[0]? = _; rw [List.getElem?_eq_getElem])) ?_
          walk_at "go"
          refine iteD (fun q3 => ?_) (fun q3 => ?_)
          · walk_at "go"
            refine i_set (j := 0) e6 (by unfold ixN; rw [List.length_map, if_pos (by decide), if_pos (by omega)]; rfl) ?_
            rw [show (us.map V.int).set 0 (V.int 0) = (us.set 0 0).map V.int from (List.map_set ..).symm]
            have e7 := upd_same (H := H6) (a := n) (o := .lst ((us.set 0 0).map V.int))
            have s17 := hup H6 (.lst ((us.set 0 0).map V.int)) s16
            generalize upd H6 n (.lst ((us.set 0 0).map V.int)) = H7 at e7 s17 ⊢
            walk_at "go"
            refine i_ixS hlw hlast ?_
            walk_at "go"
            refine iteD (fun q4 => ?_) (fun q4 => ?_)
            · walk_at "go"
              refine i_set (j := w2.length) e7 (hset1 _ (by rw [List.length_set]; exact hul)) ?_
              rw [show ((us.set 0 0).map V.int).set w2.length (V.int 0) = ((us.set 0 0).set w2.length 0).map V.int from (List.map_set ..).symm]
              walk_at "go"
              refine i_tupleR (seqR_lst upd_same) fun t' H8 ht' s8 => ?_
              walk_at "go"
              exact fin _ _ (by rw [List.length_set, List.length_set]; exact hul) (hset _ _ (hset _ _ hus)) (hup _ _ s17) upd_same t' H8 ht' s8
            · walk_at "go"
              refine i_tupleR (seqR_lst e7) fun t' H8 ht' s8 => ?_
              walk_at "go"
              exact fin _ _ (by rw [List.length_set]; exact hul) (hset _ _ hus) s17 e7 t' H8 ht' s8
          · walk_at "go"
            refine i_ixS hlw hlast ?_
            walk_at "go"
            refine iteD (fun q4 => ?_) (fun q4 => ?_)
            · walk_at "go"
              refine i_set (j := w2.length) e6 (hset1 _ hul) ?_
              rw [show (us.map V.int).set w2.length (V.int 0) = (us.set w2.length 0).map V.int from (List.map_set ..).symm]
              walk_at "go"
              refine i_tupleR (seqR_lst upd_same) fun t' H8 ht' s8 => ?_
              walk_at "go"
              exact fin _ _ (by rw [List.length_set]; exact hul) (hset _ _ hus) (hup _ _ s16) upd_same t' H8 ht' s8
            · walk_at "go"
              refine i_tupleR (seqR_lst e6) fun t' H8 ht' s8 => ?_
              walk_at "go"
              exact fin _ _ hul hus s16 e6 t' H8 ht' s8
end
abbrev s_fitting_places : Stmt := top 1
theorem sc_fitting_places : FnScope ["signs", "framed"] ["signs", "framed"] (defScope s_fitting_places) := ⟨rfl, rfl, rfl, by decide +kernel, rfl, by decide +kernel, by decide +kernel⟩
abbrev s_values_by_fits : Stmt := top 2
theorem sc_values_by_fits : FnScope ["fits", "word", "told", "begin", "numbers", "place", "number"] ["fits", "word"] (defScope s_values_by_fits) := ⟨rfl, rfl, rfl, by decide +kernel, rfl, by decide +kernel, by decide +kernel⟩
abbrev s_values : Stmt := top 3
theorem sc_values : FnScope ["patterns", "word", "framed", "fits", "pattern"] ["patterns", "word"] (defScope s_values) := ⟨rfl, rfl, rfl, by decide +kernel, rfl, by decide +kernel, by decide +kernel⟩
/-- where the signs fit -/
def spFit : Sp := fun vs H Q _ => ∃ (p f : List Nat), vs = [.str (S p), .str (S f)] ∧ p.length ≤ 1000 ∧ f.length ≤ 1000 ∧ ∀ (r : Addr) (H' : Hp), H r = none → H' r = some (.lst ((places p f).map fun k : Nat => V.int (k : Int))) → Same H H' → Q (.ref r) H'
/-- the values of a word's gaps -/
def spValues : Sp := fun vs H Q _ => ∃ (v : V) (xs : List Pat) (w : List Nat), vs = [v, .str (S w)] ∧ Is H v (patsD xs) ∧ (∀ x ∈ xs, 1 ≤ x.1.length ∧ x.1.length ≤ 1000 ∧ x.2.length ≤ x.1.length + 1) ∧ xs.length ≤ 1000 ∧ 1 ≤ w.length ∧ w.length ≤ 100 ∧
  ∀ (r : Addr) (H' : Hp), H r = none → H' r = some (.lst ((vals xs w).map V.int)) → Same H H' → Q (.ref r) H'
theorem places_fits {p f : List Nat} {b : Nat} (h : b ∈ places p f) : b + p.length ≤ f.length := by
  unfold places at h
  have := (List.mem_filter.mp h).2
  unfold fits at this
  simp only [Bool.and_eq_true, decide_eq_true_eq] at this
  exact this.1
theorem frame_eq (w : List Nat) : [46] ++ w ++ [46] = frame w := by simp [frame]
theorem set_put (t : List Int) (p : Nat) (v : Int) (h : p < t.length) : (t.map V.int).set p (.int (if v > t[p] then v else t[p])) = (put t p v).map V.int := by
  unfold put mx
  rw [List.map_set]
  have : t.getD p 0 = t[p] := by simp [List.getD_eq_getElem?_getD, h]
  rw [this]
/-- the gaps' values by fits -/
def spByFits : Sp := fun vs H Q _ => ∃ (v : V) (xs : List Fit) (w : List Nat), vs = [v, .str (S w)] ∧ Is H v (fitsD xs) ∧ (∀ x ∈ xs, x.1 + x.2.length ≤ w.length + 3) ∧ w.length ≤ 100 ∧
  ∀ (r : Addr) (H' : Hp), H r = none → H' r = some (.lst ((cutA (layF (List.replicate (w.length + 3) 0) xs) (some 2) (some (-2))).map V.int)) → Same H H' → Q (.ref r) H'
section
variable {P : Program} {w : World} {K : PySem.W.Frag} {mg : Str → Option Value} {base : Heap} {f : Addr} {fd : FuncData} {tk : Nat → Tok}
theorem ok_fitting_places (T : Txt mg tk) (F : Fun K "fitting_places" "fitting_places" s_fitting_places f fd) : FnOk P w K mg base CX0 1 f fd ["signs", "framed"] spFit := by
  refine F.ok sc_fitting_places (fun vs H Q E h => ?_) (fun cdv A outer s H vs Q E hr h => ?_)
  · obtain ⟨p, f, rfl, _⟩ := h
    rfl
  obtain ⟨p, fr, rfl, hp, hf, q⟩ := h
  have nd := sc_fitting_places.nd
  refine ⟨_, (pss_one (ps_ret (pe_comp ["framed", "signs", "place"] [some 1, some 0, none] rfl (by kernel_rfl) rfl (pi_range1 rfl T.z_range (pa_cons (pe_callB (c_len (K := K)) rfl T.z_len (by decide +kernel) (pa_cons (pv 1) pa_nil)) pa_nil)) (fun _ _ _ _ => (pg_name (i := 2) (show (["framed", "signs", "place"] : List Str).Nodup by decide +kernel) rfl (Or.inl rfl) (Or.inr rfl))) (fun _ _ _ _ => (pts_one (pt_tru (pe_bmK (K := K) PySem.F.plainAttrs_str PySem.F.slot_str_startswith PySem.F.type_str_startswith m_startswith2 (pv 0) (pa_cons (pv 1) (pa_cons (pv 2) pa_nil))) (fun _ => rfl)))) (fun _ _ _ _ => (pv 2))))), ?_⟩
  rw [show L2.start ["signs", "framed"] [.str (S p), .str (S fr)] = [some (.str (S p)), some (.str (S fr))] from rfl]
  walk_at "go"
  intro r hr0
  refine comp_range (fun i acc σ H' => ∃ v, σ = [some (.str (S fr)), some (.str (S p)), v] ∧ acc = (((List.range i).filter (fits p fr)).map fun k : Nat => V.int (k : Int)) ∧ Same H H' ∧ H' r = some (.lst acc))
    ⟨none, rfl, rfl, same_new hr0 _, upd_same⟩ (fun i acc σ H' ⟨_, _, e, _, e2⟩ => ⟨e2, by rw [e, List.length_map]; exact Nat.le_trans (List.length_filter_le _ _) (by simp)⟩) (szn (by omega)) ?_ ?_
  · rintro i acc σ H' hi ⟨v, rfl, rfl, s1, e1⟩
    walk_at "go"
    rw [Int.zero_add, starts3_S]
    refine iteB (fun c => ?_) (fun c => ?_)
    · walk_at "go"
      refine ⟨e1, _, rfl, ?_, fun b o e => ?_, upd_same⟩
      · rw [List.range_succ, List.filter_append, List.map_append, List.filter_cons, c, if_pos rfl]; rfl
      · have hb : b ≠ r := fun z => by rw [z, hr0] at e; cases e
        rw [upd_ne hb]; exact s1 b o e
    · refine ⟨_, rfl, ?_, s1, ?_⟩
      · rw [List.range_succ, List.filter_append, List.map_append, List.filter_cons, c, if_neg Bool.false_ne_true]; simp
      · exact e1
  · rintro acc σ H' ⟨v, rfl, rfl, s1, e1⟩
    refine q r H' hr0 ?_ s1
    rw [e1]
    show _ = some (HO.lst (((List.range fr.length).filter (fits p fr)).map _))
    simp
theorem ok_values_by_fits (T : Txt mg tk) (F : Fun K "values_by_fits" "values_by_fits" s_values_by_fits f fd) : FnOk P w K mg base CX0 1 f fd ["fits", "word"] spByFits := by
  refine F.ok sc_values_by_fits (fun vs H Q E h => ?_) (fun cdv A outer s H vs Q E hr h => ?_)
  · obtain ⟨v, xs, w, rfl, _⟩ := h
    rfl
  obtain ⟨v, xs, w', rfl, hv, hxs, hw2, q⟩ := h
  obtain ⟨a, ys, rfl, ha, hys⟩ := isFits hv
  have nd := sc_values_by_fits.nd
  refine ⟨_, (pss_cons (ps_set (i := 2) nd rfl (Or.inl rfl) (pe_op o_mul (pe_lst (pa_cons pe_int pa_nil)) (pe_op o_add (pe_callB (c_len (K := K)) rfl T.z_len (by decide +kernel) (pa_cons (pv 1) pa_nil)) pe_int)))
    (pss_cons (ps_for PassesOwn.never rfl (pi_any (K := K) (pv 0)) (pg_tup rfl (pgs_cons (pg_name (i := 3) nd rfl (Or.inl rfl)) (pgs_cons (pg_name (i := 4) nd rfl (Or.inl rfl)) pgs_nil)))
     (pss_one (ps_for PassesOwn.never rfl (pi_enumS rfl T.z_enumerate (pv 4) (pv 3)) (pg_tup rfl (pgs_cons (pg_name (i := 5) nd rfl (Or.inl rfl)) (pgs_cons (pg_name (i := 6) nd rfl (Or.inl rfl)) pgs_nil)))
     (pss_one (ps_asg (pe_callB (c_max rfl) rfl T.z_max (by decide +kernel) (pa_cons (pe_ix (ix_any (K := K)) (pv 2) (pv 5) (fun _ _ => rfl)) (pa_cons (pv 6) pa_nil))) (pg_sub (pv 2) (pv 5) set_l))))))
    (pss_one (ps_ret (pe_slice (sl_any (K := K)) (pv 2) (po_some pe_int) (po_some (pe_un o_neg pe_int))))))), ?_⟩
  rw [show L2.start ["fits", "word", "told", "begin", "numbers", "place", "number"] [.ref a, .str (S w')] = [some (.ref a), some (.str (S w')), none, none, none, none, none] from rfl]
  walk_at "go"
  intro b0 hb0
  walk_at "go"
  refine i_mulZ upd_same (by omega) fun t ht0 => ?_
  have hrep : (List.replicate (((w'.length : Nat) : Int) + 3).toNat (V.int 0)) = (List.replicate (w'.length + 3) (0 : Int)).map V.int := by
    rw [List.map_replicate]; congr 1
  rw [hrep]
  have s0 : Same H (upd (upd H b0 (.lst [.int 0])) t (.lst ((List.replicate (w'.length + 3) (0 : Int)).map V.int))) := (same_new hb0 _).trans (same_new ht0 _)
  have htH : H t = none := (same_new hb0 _).free ht0
  have ha0 := s0 _ _ ha
  walk_at "go"
  refine for_list (K := K) (xs := ys) (fun i σ H' => ∃ (v3 v4 v5 v6 : Option V), σ = [some (.ref a), some (.str (S w')), some (.ref t), v3, v4, v5, v6] ∧ H' t = some (.lst ((layF (List.replicate (w'.length + 3) 0) (xs.take i)).map V.int)) ∧ Same H H')
    ⟨none, none, none, none, rfl, upd_same, s0⟩ (fun i σ H' _ ⟨_, _, _, _, _, _, s1⟩ => SqL.of (s1 _ _ ha)) ?_ ?_
  · rintro i x σ H1 hx ⟨v3, v4, v5, v6, rfl, e1, s1⟩
    have hil : i < xs.length := by
      have h1 := (List.getElem?_eq_some_iff.mp hx).1
      have h2 := hys.length
      rw [List.length_map] at h2; omega
    obtain ⟨x', d, hx1, hx2, hx3⟩ := IsL.get hys (i := i) (by rw [List.length_map]; exact hil)
    rw [hx] at hx1
    cases hx1
    rw [List.getElem?_map, List.getElem?_eq_getElem hil] at hx2
    cases hx2
    obtain ⟨pa, nt, rfl, hpa, hnt⟩ := isFit hx3
    have hg := hxs _ (List.getElem_mem hil)
    have hpa1 := s1 _ _ hpa
    have hnt1 := s1 _ _ hnt
    have hT1 := layF_length (xs.take i) (List.replicate (w'.length + 3) 0)
    rw [List.length_replicate] at hT1
    rw [layF_take hil]
    generalize layF (List.replicate (w'.length + 3) 0) (xs.take i) = T1 at e1 hT1 ⊢
    generalize xs[i] = xi at hg hpa1 hnt1 hnt ⊢
    obtain ⟨b, ns⟩ := xi
    refine i_gtup hpa1 rfl (i_gcons (i_name (i_gcons (i_name (i_gnil ?_)))))
    have hg : b + ns.length ≤ w'.length + 3 := hg
    have hnt1 : H1 nt = some (.tup (ns.map V.int)) := hnt1
    have hnt : H nt = some (.tup (ns.map V.int)) := hnt
    walk_at "go"
    refine ⟨b, rfl, by omega, i_enST hnt1 ?_⟩
    refine for_en (b := b) (xs := ns.map V.int) (fun k σ H' => ∃ (v5 v6 : Option V), σ = [some (.ref a), some (.str (S w')), some (.ref t), some (.int (b : Int)), some (.ref nt), v5, v6] ∧ H' t = some (.lst ((laid T1 b (ns.take k)).map V.int)) ∧ Same H H')
      ⟨_, _, rfl, e1, s1⟩ (fun k σ H' _ ⟨_, _, _, _, s4⟩ => s4 _ _ hnt) ?_ ?_
    · rintro k z σ H4 T4 hz ⟨v5, v6, rfl, e4, s4⟩ hT4
      have hkl : k < ns.length := by
        have := (List.getElem?_eq_some_iff.mp hz).1
        simpa using this
      rw [List.getElem?_map, List.getElem?_eq_getElem hkl] at hz
      cases hz
      have htT : t ≠ T4 := ne_of_none e4 hT4
      have hL2 := laid_length (ns.take k) T1 b
      have htk2 : ns.take (k + 1) = ns.take k ++ [ns[k]] := by rw [List.take_succ, List.getElem?_eq_getElem hkl]; rfl
      have hsn := laid_snoc b ns[k] (ns.take k) T1 b
      rw [← htk2, List.length_take, Nat.min_eq_left (Nat.le_of_lt hkl)] at hsn
      rw [hsn]
      generalize laid T1 b (ns.take k) = T2 at e4 hL2 ⊢
      have e5 : (upd H4 T4 (.tup [.int ((b : Int) + (k : Int)), .int ns[k]])) t = some (.lst (T2.map V.int)) := by rw [upd_ne htT]; exact e4
      have hbk : b + k < T2.length := by omega
      refine i_gtup upd_same rfl (i_gcons (i_name (i_gcons (i_name (i_gnil ?_)))))
      walk_at "go"
      refine i_ixR (v := .int T2[b + k]) (seqR_lst e5) (atI_of (by omega) (by rw [show ((b : Int) + (k : Int)).toNat = b + k by omega, List.getElem?_map, List.getElem?_eq_getElem hbk]; rfl)) ?_
      walk_at "go"
      refine i_set (j := b + k) e5 (by rw [List.length_map]; rw [ixN_of (by omega) (by omega)]; rfl) ?_
      rw [set_put T2 (b + k) ns[k] hbk]
      walk_at "go"
      refine ⟨_, _, rfl, upd_same, fun c o e => ?_⟩
      have hct : c ≠ t := fun z => by rw [z, htH] at e; cases e
      rw [upd_ne hct]
      exact (same_new hT4 _) c o (s4 c o e)
    · rintro σ H4 ⟨v5, v6, rfl, e4, s4⟩
      rw [List.length_map, List.take_length] at e4
      walk_at "go"
      exact ⟨_, _, _, _, rfl, e4, s4⟩
  · rintro σ H1 ⟨v3, v4, v5, v6, rfl, e1, s1⟩
    have h2 := hys.length
    rw [List.length_map] at h2
    rw [h2, List.take_length] at e1
    walk_at "go"
    refine i_slL (SqL.of e1) fun r hr1 => ?_
    rw [cutV_eq, cutA_map]
    walk_at "go"
    exact q r _ (s1.free hr1) upd_same (s1.trans (same_new hr1 _))
theorem ok_values (T : Txt mg tk) (F : Fun K "values" "values" s_values f fd) (D_fitting_places : Dn P w K mg base "fitting_places" 1 ["signs", "framed"] spFit) (D_values_by_fits : Dn P w K mg base "values_by_fits" 1 ["fits", "word"] spByFits) : FnOk P w K mg base CX0 2 f fd ["patterns", "word"] spValues := by
  refine F.ok sc_values (fun vs H Q E h => ?_) (fun cdv A outer s H vs Q E hr h => ?_)
  · obtain ⟨v, xs, w, rfl, _⟩ := h
    rfl
  obtain ⟨v, xs, w', rfl, hv, hxs, hxl, hw1, hw2, q⟩ := h
  obtain ⟨a, ys, rfl, ha, hys⟩ := isPats hv
  have nd := sc_values.nd
  refine ⟨_, (pss_cons (ps_set (i := 2) nd rfl (Or.inl rfl) (pe_op o_add (pe_op o_add pe_str (pv 1)) pe_str))
    (pss_cons (ps_set (i := 3) nd rfl (Or.inl rfl) (pe_lst pa_nil))
    (pss_cons (ps_for PassesOwn.never rfl (pi_any (K := K) (pv 0)) (pg_name (i := 4) nd rfl (Or.inr rfl))
     (pss_one (ps_expr (pe_bmK (K := K) PySem.F.plainAttrs_list PySem.F.slot_list_extend PySem.F.type_list_extend m_extend1 (pv 3) (pa_cons (pe_comp ["pattern", "begin"] [some 4, none] rfl (by kernel_rfl) rfl (pi_any (K := K) (pe_callD D_fitting_places (hr.mono (by first | decide | omega)) rfl (pa_cons (pe_ix (ix_any (K := K)) (pv 4) pe_int (fun _ _ => rfl)) (pa_cons (pv 2) pa_nil)))) (fun _ _ _ _ => (pg_name (i := 1) (show (["pattern", "begin"] : List Str).Nodup by decide +kernel) rfl (Or.inl rfl) (Or.inr rfl))) (fun _ _ _ _ => pts_nil) (fun _ _ _ _ => (pe_tup (pa_cons (pv 1) (pa_cons (pe_ix (ix_any (K := K)) (pv 0) pe_int (fun _ _ => rfl)) pa_nil))))) pa_nil)))))
    (pss_one (ps_ret (pe_callD D_values_by_fits (hr.mono (by first | decide | omega)) rfl (pa_cons (pv 3) (pa_cons (pv 1) pa_nil)))))))), ?_⟩
  rw [show L2.start ["patterns", "word", "framed", "fits", "pattern"] [.ref a, .str (S w')] = [some (.ref a), some (.str (S w')), none, none, none] from rfl]
  rw [t_dot]
  have hfl := frame_length w'
  walk_at "go"
  rw [frame_eq]
  intro r hr0
  have ra : (upd H r (.lst [])) a = some (.lst ys) := (same_new hr0 _) _ _ ha
  walk_at "go"
  refine for_list (K := K) (xs := ys) (fun i σ H' => ∃ (v4 : Option V) (zs : List V), σ = [some (.ref a), some (.str (S w')), some (.str (S (frame w'))), some (.ref r), v4] ∧ H' r = some (.lst zs) ∧ IsL H' zs ((fitsOf (frame w') (xs.take i)).map fitD) ∧ Same H H')
    ⟨none, [], rfl, upd_same, (by simp [fitsOf, L2.IsL]), same_new hr0 _⟩ (fun i σ H' _ ⟨_, _, _, _, _, s1⟩ => SqL.of (s1 _ _ ha)) ?_ ?_
  · rintro i x σ H1 hx ⟨v4, zs, rfl, e1, hz1, s1⟩
    have hil : i < xs.length := by
      have h1 := (List.getElem?_eq_some_iff.mp hx).1
      have h2 := hys.length
      rw [List.length_map] at h2; omega
    obtain ⟨x', d, hx1, hx2, hx3⟩ := IsL.get hys (i := i) (by rw [List.length_map]; exact hil)
    rw [hx] at hx1
    cases hx1
    rw [List.getElem?_map, List.getElem?_eq_getElem hil] at hx2
    cases hx2
    obtain ⟨pa, nt, rfl, hpa, hnt⟩ := isPat hx3
    obtain ⟨hg1, hg2, hg3⟩ := hxs _ (List.getElem_mem hil)
    have hpa1 := s1 _ _ hpa
    have hnt1 := s1 _ _ hnt
    have hzl : zs.length ≤ 1000 * 102 := by
      have h1 := hz1.length
      rw [List.length_map] at h1
      have h2 := fitsOf_len (frame w') (xs.take i)
      have h3 : (xs.take i).length ≤ 1000 := by rw [List.length_take]; omega
      have h4 : (xs.take i).length * (frame w').length ≤ 1000 * 102 := Nat.mul_le_mul h3 (by omega)
      omega
    rw [fitsOf_take hil]
    generalize xs[i] = xi at hpa hnt hpa1 hnt1 hg1 hg2 hg3 ⊢
    walk_at "go"
    refine ⟨xi.1, frame w', rfl, hg2, by omega, fun p H2 hp2 e2 s2 => ?_⟩
    have hpa2 := s2 _ _ hpa1
    have hpl := places_le xi.1 (frame w')
    walk_at "go"
    intro c hc0
    have rc : r ≠ c := ne_of_none (s2 _ _ e1) hc0
    refine comp_list (K := K) (xs := (places xi.1 (frame w')).map fun k : Nat => V.int (k : Int)) (fun j acc σ H' => ∃ v, σ = [some (.ref pa), v] ∧ acc.length = j ∧ H' c = some (.lst acc) ∧ IsL H' acc ((((places xi.1 (frame w')).take j).map fun b => (b, xi.2)).map fitD) ∧ Same H2 H')
      (fun j acc σ H' _ ⟨_, _, _, _, _, s3⟩ => SqL.of (s3 _ _ e2)) ⟨none, rfl, rfl, upd_same, (by simp [L2.IsL]), same_new hc0 _⟩ (fun j acc σ H' ⟨_, _, e, e3, _⟩ => ⟨e3, Nat.le_of_eq e⟩) (szn (by rw [List.length_map]; omega)) ?_ ?_
    · rintro j acc σ H3 hj ⟨v, rfl, hal, e3, hz3, s3⟩
      have hj' : j < (places xi.1 (frame w')).length := by simpa using hj
      have hpa3 := s3 _ _ hpa2
      have hgd : ((places xi.1 (frame w')).map fun k : Nat => V.int (k : Int)).getD j .non = V.int ((places xi.1 (frame w'))[j] : Int) := by
        rw [List.getD_eq_getElem?_getD, List.getElem?_map, List.getElem?_eq_getElem hj']; rfl
      rw [hgd]
      walk_at "go"
      intro t ht0
      have tc : c ≠ t := ne_of_none e3 ht0
      have e4 : (upd H3 t (.tup [.int ((places xi.1 (frame w'))[j] : Int), .ref nt])) c = some (.lst acc) := by rw [upd_ne tc]; exact e3
      have k4 : Tk H3 (upd (upd H3 t (.tup [.int ((places xi.1 (frame w'))[j] : Int), .ref nt])) c (.lst (acc ++ [.ref t]))) := (Tk.new ht0 _).trans (Tk.lst e4 _)
      refine ⟨e4, _, rfl, by simp [hal], upd_same, ?_, fun b o e => ?_⟩
      · have htk : (places xi.1 (frame w')).take (j + 1) = (places xi.1 (frame w')).take j ++ [(places xi.1 (frame w'))[j]] := by rw [List.take_succ, List.getElem?_eq_getElem hj']; rfl
        rw [htk, List.map_append, List.map_append]
        refine IsL.snoc (IsL.tk k4 (tOnly_fits _) hz3) (isFit_mk (x := ((places xi.1 (frame w'))[j], xi.2)) ?_ (k4 _ _ (s3 _ _ (s2 _ _ hnt1))))
        rw [upd_ne tc.symm]; exact upd_same
      · have hbc : b ≠ c := fun z => by rw [z, hc0] at e; cases e
        rw [upd_ne hbc]; exact (same_new ht0 _) _ _ (s3 _ _ e)
    · rintro acc σ H3 ⟨v, rfl, hal, e3, hz3, s3⟩
      rw [List.length_map] at hal hz3
      rw [List.take_length] at hz3
      have e3r : H3 r = some (.lst zs) := s3 _ _ (s2 _ _ e1)
      walk_at "go"
      refine i_extL e3r e3 (szn (by omega)) ?_
      walk_at "go"
      have k5 : Tk H3 (upd H3 r (.lst (zs ++ acc))) := Tk.lst e3r _
      refine ⟨_, zs ++ acc, rfl, upd_same, ?_, fun b o e => ?_⟩
      · rw [List.map_append]
        exact IsL.append (IsL.tk k5 (tOnly_fits _) (IsL.same (s2.trans s3) hz1)) (IsL.tk k5 (tOnly_fits _) hz3)
      · have hbr : b ≠ r := fun z => by rw [z, hr0] at e; cases e
        rw [upd_ne hbr]; exact s3 _ _ (s2 _ _ (s1 _ _ e))
  · rintro σ H1 ⟨v4, zs, rfl, e1, hz1, s1⟩
    have h2 := hys.length
    rw [List.length_map] at h2
    rw [h2, List.take_length] at hz1
    walk_at "go"
    refine ⟨.ref r, fitsOf (frame w') xs, w', rfl, ?_, fun y hy => ?_, hw2, fun r2 H2 hr2 e2 s2 => ?_⟩
    · simp only [Is, fitsD]; exact ⟨r, zs, rfl, e1, hz1⟩
    · obtain ⟨x, hx, hp, he⟩ := fitsOf_mem hy
      have h3 := places_fits hp
      have h4 := (hxs x hx).2.2
      rw [he]; omega
    · rw [layF_fitsOf, show w'.length + 3 = (frame w').length + 1 by omega, program_vals xs w' hw1] at e2
      exact q r2 H2 (s1.free hr2) e2 (s1.trans s2)
end
theorem pg_tupK {X : Cx} {es : List Expr} {k : Nat} {pos : Pos} {t : TGs} {n : Nat} {K : PySem.W.Frag} (hK : X.K = K) (hc : X.calm = true) (h : PGs X es t)
    (hn : (assignEach es X.env).length = n := by rfl) (hst : (assignEach es X.env).findIdx? (·.1) = none := by rfl) : PG X (.Tuple es k pos) (gTup K n t) := hK ▸ pg_tup hc h hn hst
abbrev s_breaks : Stmt := top 4
theorem sc_breaks : FnScope ["patterns", "word"] ["patterns", "word"] (defScope s_breaks) := ⟨rfl, rfl, rfl, by decide +kernel, rfl, by decide +kernel, by decide +kernel⟩
theorem comp_en {b : Nat} {xs : List V} {ok : Hp → Prop} {p : Addr} {g : TG} {tc : TT} {te : TE} {Q : VK} {σ0 : St} {H0 : Hp} (Pv : Nat → List V → St → Hp → Prop)
    (hok : ∀ i acc σ H, i ≤ xs.length → Pv i acc σ H → ok H) (h0 : Pv 0 [] σ0 H0) (hp : ∀ i acc σ H, Pv i acc σ H → H p = some (.lst acc) ∧ acc.length ≤ i) (hz : xs.length ≤ sizeLine)
    (hs : ∀ i v acc σ H T, xs[i]? = some v → Pv i acc σ H → H T = none → g (.ref T) σ (upd H T (.tup [.int ((b : Int) + (i : Int)), v])) fun σ3 H3 => tc σ3 H3 fun bb H4 =>
      if bb = true then te σ3 H4 fun v H5 => H5 p = some (.lst acc) ∧ Pv (i + 1) (acc ++ [v]) σ3 (upd H5 p (.lst (acc ++ [v]))) else Pv (i + 1) acc σ3 H4)
    (hd : ∀ acc σ H, Pv xs.length acc σ H → Q (.ref p) H) : CompRuns (Ien b xs ok) p g tc te Q σ0 H0 := by
  refine ⟨fun i m acc σ H => m = xs.length - i ∧ i ≤ xs.length ∧ Pv i acc σ H, ⟨xs.length, by simp, Nat.zero_le _, h0⟩, fun i m acc σ' H' w => ?_⟩
  obtain ⟨rfl, hi, q⟩ := w
  obtain ⟨q1, q2⟩ := hp i acc σ' H' q
  have ho := hok i acc σ' H' hi q
  refine ⟨q1, ?_⟩
  by_cases hlt : i < xs.length
  · refine .inr ⟨⟨ho, hlt⟩, by omega, Pv (i + 1), fun a' σ3 H3 k => ⟨xs.length - (i + 1), by omega, rfl, hlt, k⟩, fun x H2 y => ?_⟩
    obtain ⟨T, v, hT, hv, rfl, rfl⟩ := y
    exact hs i v acc σ' H' T hv q hT
  · have e : i = xs.length := by omega
    subst e
    exact .inl ⟨⟨ho, rfl⟩, hd acc σ' H' q⟩
def oddAt (vs : List Int) (j : Nat) : Bool := decide (vs.getD j 0 % 2 = 1)
/-- the gaps of odd value -/
def brks (vs : List Int) : List Int := ((List.range vs.length).filter (oddAt vs)).map fun j : Nat => (j : Int) + 1
def brkTo (vs : List Int) (i : Nat) : List V := ((List.range i).filter (oddAt vs)).map fun j : Nat => V.int ((j : Int) + 1)
theorem brkTo_all (vs : List Int) : brkTo vs vs.length = (brks vs).map V.int := by unfold brkTo brks; rw [List.map_map]; rfl
theorem brkTo_yes {vs : List Int} {i : Nat} (h : oddAt vs i = true) : brkTo vs (i + 1) = brkTo vs i ++ [V.int ((i : Int) + 1)] := by
  unfold brkTo; rw [List.range_succ, List.filter_append, List.map_append, List.filter_cons, h, if_pos rfl]; rfl
theorem brkTo_no {vs : List Int} {i : Nat} (h : oddAt vs i = false) : brkTo vs (i + 1) = brkTo vs i := by
  unfold brkTo; rw [List.range_succ, List.filter_append, List.map_append, List.filter_cons, h, if_neg Bool.false_ne_true]; simp
theorem brkTo_len (vs : List Int) (i : Nat) : (brkTo vs i).length ≤ i := by
  unfold brkTo; rw [List.length_map]; exact Nat.le_trans (List.length_filter_le _ _) (by simp)
def spBreaks : Sp := fun vs H Q _ => ∃ (v : V) (xs : List Pat) (w : List Nat), vs = [v, .str (S w)] ∧ Is H v (patsD xs) ∧ (∀ x ∈ xs, 1 ≤ x.1.length ∧ x.1.length ≤ 1000 ∧ x.2.length ≤ x.1.length + 1) ∧ xs.length ≤ 1000 ∧ 1 ≤ w.length ∧ w.length ≤ 100 ∧
  ∀ (t : Addr) (H' : Hp), H' t = some (.tup ((brks (vals xs w)).map V.int)) → Same H H' → Q (.ref t) H'
section
variable {P : Program} {w : World} {K : PySem.W.Frag} {mg : Str → Option Value} {base : Heap} {f : Addr} {fd : FuncData} {tk : Nat → Tok}
theorem ok_breaks (T : Txt mg tk) (F : Fun K "breaks" "breaks" s_breaks f fd) (D_values : Dn P w K mg base "values" 2 ["patterns", "word"] spValues) : FnOk P w K mg base CX0 3 f fd ["patterns", "word"] spBreaks := by
  refine F.ok sc_breaks (fun vs H Q E h => ?_) (fun cdv A outer s H vs Q E hr h => ?_)
  · obtain ⟨v, xs, w, rfl, _⟩ := h
    rfl
  obtain ⟨v, xs, w', rfl, hv, hxs, hxl, hw1, hw2, q⟩ := h
  have nd := sc_breaks.nd
  have hvl := vals_length xs w'
  refine ⟨_, (pss_one (ps_ret (pe_callTy c_tuple rfl T.z_tuple (by decide +kernel) (pa_cons (pe_comp ["gap", "value"] [none, none] rfl (by kernel_rfl) rfl (pi_enumS rfl T.z_enumerate (pe_callD D_values (hr.mono (by first | decide | omega)) rfl (pa_cons (pv 0) (pa_cons (pv 1) pa_nil))) pe_int) (fun _ _ _ _ => (pg_tupK (K := K) (n := 2) rfl rfl (pgs_cons (pg_name (i := 0) (show (["gap", "value"] : List Str).Nodup by decide +kernel) rfl (Or.inl rfl) (Or.inr rfl)) (pgs_cons (pg_name (i := 1) (show (["gap", "value"] : List Str).Nodup by decide +kernel) rfl (Or.inl rfl) (Or.inr rfl)) pgs_nil)))) (fun _ _ _ _ => (pts_one (pt_cmpR (o_eq hr.units) (pe_op o_mod (pv 1) pe_int) pe_int (nomark _)))) (fun _ _ _ _ => (pv 0))) pa_nil)))), ?_⟩
  rw [show L2.start ["patterns", "word"] [v, .str (S w')] = [some (v), some (.str (S w'))] from rfl]
  walk_at "go"
  refine ⟨v, xs, w', rfl, hv, hxs, hxl, hw1, hw2, fun a H1 ha0 e1 s1 => ?_⟩
  walk_at "go"
  refine ⟨1, rfl, by decide, i_enSL e1 ?_⟩
  intro r hr0
  have ar : a ≠ r := ne_of_none e1 hr0
  refine comp_en (b := 1) (xs := (vals xs w').map V.int) (fun i acc σ H' => ∃ v1 v2, σ = [v1, v2] ∧ acc = brkTo (vals xs w') i ∧ Same H1 H' ∧ H' r = some (.lst acc))
    (fun i acc σ H' _ ⟨_, _, _, _, s2, _⟩ => s2 _ _ e1) ⟨none, none, rfl, rfl, same_new hr0 _, upd_same⟩ (fun i acc σ H' ⟨_, _, _, e, _, e2⟩ => ⟨e2, by rw [e]; exact brkTo_len _ _⟩) (szn (by rw [List.length_map]; omega)) ?_ ?_
  · rintro i z acc σ H2 T2 hz ⟨v1, v2, rfl, rfl, s2, e2⟩ hT
    have hil : i < (vals xs w').length := by
      have := (List.getElem?_eq_some_iff.mp hz).1
      simpa using this
    rw [List.getElem?_map, List.getElem?_eq_getElem hil] at hz
    cases hz
    have hod : oddAt (vals xs w') i = decide ((vals xs w')[i] % 2 = 1) := by unfold oddAt; simp [List.getD_eq_getElem?_getD, hil]
    have rT : r ≠ T2 := ne_of_none e2 hT
    have s3 := same_new hT (.tup [.int (((1 : Nat) : Int) + (i : Int)), .int (vals xs w')[i]])
    have e3 : (upd H2 T2 (.tup [.int (((1 : Nat) : Int) + (i : Int)), .int (vals xs w')[i]])) r = some (.lst (brkTo (vals xs w') i)) := s3 _ _ e2
    refine i_gtup upd_same rfl (i_gcons (i_name (i_gcons (i_name (i_gnil ?_)))))
    walk_at "go"
    refine iteD (fun c => ?_) (fun c => ?_)
    · have c' : (vals xs w')[i] % 2 = 1 := by injection c
      walk_at "go"
      have hb := brkTo_yes (vs := vals xs w') (i := i) (by rw [hod]; exact decide_eq_true c')
      have he : V.int (((1 : Nat) : Int) + (i : Int)) = V.int ((i : Int) + 1) := by congr 1; omega
      refine ⟨e3, _, _, rfl, by rw [hb, he], fun b o e => ?_, upd_same⟩
      have hbr : b ≠ r := fun z => by rw [z, hr0] at e; cases e
      rw [upd_ne hbr]; exact s3 _ _ (s2 b o e)
    · have c' : ¬ (vals xs w')[i] % 2 = 1 := fun z => c (by rw [z])
      have hb := brkTo_no (vs := vals xs w') (i := i) (by rw [hod]; exact decide_eq_false c')
      exact ⟨_, _, rfl, hb.symm, s2.trans s3, by rw [e3]⟩
  · rintro acc σ H2 ⟨v1, v2, rfl, rfl, s2, e2⟩
    rw [List.length_map, brkTo_all] at e2
    walk_at "go"
    refine i_tupleR (seqR_lst e2) fun t H3 ht k3 => ?_
    walk_at "go"
    exact q t H3 ht ((s1.trans s2).trans k3)
end
abbrev s_law_values : Stmt := top 13
theorem sc_law_values : FnScope ["_law_patterns", "_law_word", "_law_text", "_law_best", "_law_signs", "_law_numbers", "_law_begin", "_law_k"] ["_law_patterns", "_law_word"] (defScope s_law_values) := ⟨rfl, rfl, rfl, by decide +kernel, rfl, by decide +kernel, by decide +kernel⟩
theorem range_places {p f : List Nat} (hp : p ≠ []) : (List.range ((f.length : Int) - (p.length : Int) + 1).toNat).filter (fits p f) = places p f := by
  have hp1 : 1 ≤ p.length := List.length_pos_iff.mpr hp
  unfold places
  obtain ⟨m, hm⟩ : ∃ m, f.length = ((f.length : Int) - (p.length : Int) + 1).toNat + m := ⟨f.length - ((f.length : Int) - (p.length : Int) + 1).toNat, by omega⟩
  generalize hn : ((f.length : Int) - (p.length : Int) + 1).toNat = n at hm ⊢
  rw [hm, List.range_add, List.filter_append]
  have : ((List.range m).map (n + ·)).filter (fits p f) = [] := by
    rw [List.filter_eq_nil_iff]
    intro b hb hc
    obtain ⟨j, hj, rfl⟩ := List.mem_map.mp hb
    unfold fits at hc
    simp only [Bool.and_eq_true, decide_eq_true_eq] at hc
    omega
  rw [this, List.append_nil]
theorem cut_fits {p f : List Nat} {b : Nat} (h : b + p.length ≤ f.length) : cutA f (some (b : Int)) (some ((b : Int) + (p.length : Int))) = p ↔ fits p f b = true := by
  have e1 : sx f.length 0 (some (b : Int)) = b := by simp only [sx]; rw [if_neg (by omega)]; omega
  have e2 : sx f.length f.length (some ((b : Int) + (p.length : Int))) = b + p.length := by simp only [sx]; rw [if_neg (by omega)]; omega
  unfold cutA fits
  rw [e1, e2, show b + p.length - b = p.length by omega]
  simp [h]
theorem cut_mid (t : List Int) (n : Nat) (h : t.length = n + 3) (h1 : 1 ≤ n) : cutA t (some 2) (some ((n : Int) + 1)) = cutA t (some 2) (some (-2)) := by
  unfold cutA
  have e2 : sx t.length t.length (some ((n : Int) + 1)) = sx t.length t.length (some (-2)) := by simp only [sx]; rw [if_neg (by omega), if_pos (by decide)]; omega
  rw [e2]
theorem tellA_take {f : List Nat} {xs : List Pat} {i : Nat} (h : i < xs.length) (t : List Int) : tellA f t (xs.take (i + 1)) = tellP f (tellA f t (xs.take i)) xs[i] := by
  unfold tellA
  rw [List.take_succ, List.getElem?_eq_getElem h, List.foldl_append]
  rfl
theorem tellA_length (f : List Nat) (xs : List Pat) (t : List Int) : (tellA f t xs).length = t.length := (tellA_get f xs t).1
theorem fl_length (ns : List Int) (bs : List Nat) (t : List Int) : (bs.foldl (fun t b => laid t b ns) t).length = t.length := (foldl_laid ns bs t).1
section
variable {P : Program} {w : World} {K : PySem.W.Frag} {mg : Str → Option Value} {base : Heap} {f : Addr} {fd : FuncData} {tk : Nat → Tok}
theorem ok_law_values (T : Txt mg tk) (F : Fun K "_law_values" "_law_values" s_law_values f fd) : FnOk P w K mg base CX0 1 f fd ["_law_patterns", "_law_word"] spValues := by
  refine F.ok sc_law_values (fun vs H Q E h => ?_) (fun cdv A outer s H vs Q E hr h => ?_)
  · obtain ⟨v, xs, w, rfl, _⟩ := h
    rfl
  obtain ⟨v, xs, w', rfl, hv, hxs, hxl, hw1, hw2, q⟩ := h
  obtain ⟨a, ys, rfl, ha, hys⟩ := isPats hv
  have nd := sc_law_values.nd
  refine ⟨_, (pss_cons (ps_set (i := 2) nd rfl (Or.inl rfl) (pe_op o_add (pe_op o_add pe_str (pv 1)) pe_str))
    (pss_cons (ps_set (i := 3) nd rfl (Or.inl rfl) (pe_op o_mul (pe_lst (pa_cons pe_int pa_nil)) (pe_op o_add (pe_callB (c_len (K := K)) rfl T.z_len (by decide +kernel) (pa_cons (pv 2) pa_nil)) pe_int)))
    (pss_cons (ps_for PassesOwn.never rfl (pi_any (K := K) (pv 0)) (pg_tup rfl (pgs_cons (pg_name (i := 4) nd rfl (Or.inl rfl)) (pgs_cons (pg_name (i := 5) nd rfl (Or.inl rfl)) pgs_nil)))
     (pss_one (ps_for PassesOwn.never rfl (pi_range1 rfl T.z_range (pa_cons (pe_op o_add (pe_op o_sub (pe_callB (c_len (K := K)) rfl T.z_len (by decide +kernel) (pa_cons (pv 2) pa_nil)) (pe_callB (c_len (K := K)) rfl T.z_len (by decide +kernel) (pa_cons (pv 4) pa_nil))) pe_int) pa_nil)) (pg_name (i := 6) nd rfl (Or.inl rfl))
     (pss_one (ps_if (pt_cmpR (o_eq hr.units) (pe_slice (sl_any (K := K)) (pv 2) (po_some (pv 6)) (po_some (pe_op o_add (pv 6) (pe_callB (c_len (K := K)) rfl T.z_len (by decide +kernel) (pa_cons (pv 4) pa_nil))))) (pv 4) (nomark _))
     (pss_one (ps_for PassesOwn.never rfl (pi_range1 rfl T.z_range (pa_cons (pe_callB (c_len (K := K)) rfl T.z_len (by decide +kernel) (pa_cons (pv 5) pa_nil)) pa_nil)) (pg_name (i := 7) nd rfl (Or.inl rfl))
     (pss_one (ps_asg (pe_callB (c_max rfl) rfl T.z_max (by decide +kernel) (pa_cons (pe_ix (ix_any (K := K)) (pv 3) (pe_op o_add (pv 6) (pv 7)) (fun _ _ => rfl)) (pa_cons (pe_ix (ix_any (K := K)) (pv 5) (pv 7) (fun _ _ => rfl)) pa_nil))) (pg_sub (pv 3) (pe_op o_add (pv 6) (pv 7)) set_l)))))
     pss_nil)))))
    (pss_one (ps_ret (pe_slice (sl_any (K := K)) (pv 3) (po_some pe_int) (po_some (pe_op o_add (pe_callB (c_len (K := K)) rfl T.z_len (by decide +kernel) (pa_cons (pv 1) pa_nil)) pe_int)))))))), ?_⟩
  rw [show L2.start ["_law_patterns", "_law_word", "_law_text", "_law_best", "_law_signs", "_law_numbers", "_law_begin", "_law_k"] [.ref a, .str (S w')] = [some (.ref a), some (.str (S w')), none, none, none, none, none, none] from rfl]
  rw [t_dot]
  have hfl := frame_length w'
  walk_at "go"
  rw [frame_eq]
  intro b0 hb0
  walk_at "go"
  refine i_mulZ upd_same (by omega) fun t ht0 => ?_
  have hrep : (List.replicate (((frame w').length : Int) + 1).toNat (V.int 0)) = (List.replicate ((frame w').length + 1) (0 : Int)).map V.int := by
    rw [List.map_replicate]; congr 1
  rw [hrep]
  have s0 : Same H (upd (upd H b0 (.lst [.int 0])) t (.lst ((List.replicate ((frame w').length + 1) (0 : Int)).map V.int))) := (same_new hb0 _).trans (same_new ht0 _)
  have htH : H t = none := (same_new hb0 _).free ht0
  have ha0 := s0 _ _ ha
  walk_at "go"
  refine for_list (K := K) (xs := ys) (fun i σ H' => ∃ (v4 v5 v6 v7 : Option V), σ = [some (.ref a), some (.str (S w')), some (.str (S (frame w'))), some (.ref t), v4, v5, v6, v7] ∧ H' t = some (.lst ((tellA (frame w') (List.replicate ((frame w').length + 1) 0) (xs.take i)).map V.int)) ∧ Same H H')
    ⟨none, none, none, none, rfl, upd_same, s0⟩ (fun i σ H' _ ⟨_, _, _, _, _, _, s1⟩ => SqL.of (s1 _ _ ha)) ?_ ?_
  · rintro i x σ H1 hx ⟨v4, v5, v6, v7, rfl, e1, s1⟩
    have hil : i < xs.length := by
      have h1 := (List.getElem?_eq_some_iff.mp hx).1
      have h2 := hys.length
      rw [List.length_map] at h2; omega
    obtain ⟨x', d, hx1, hx2, hx3⟩ := IsL.get hys (i := i) (by rw [List.length_map]; exact hil)
    rw [hx] at hx1
    cases hx1
    rw [List.getElem?_map, List.getElem?_eq_getElem hil] at hx2
    cases hx2
    obtain ⟨pa, nt, rfl, hpa, hnt⟩ := isPat hx3
    obtain ⟨hg1, hg2, hg3⟩ := hxs _ (List.getElem_mem hil)
    rw [tellA_take hil]
    have hT1 := tellA_length (frame w') (xs.take i) (List.replicate ((frame w').length + 1) 0)
    rw [List.length_replicate] at hT1
    generalize tellA (frame w') (List.replicate ((frame w').length + 1) 0) (xs.take i) = T1 at e1 hT1 ⊢
    generalize xs[i] = xi at hg1 hg2 hg3 hpa hnt ⊢
    obtain ⟨p, ns⟩ := xi
    have hg1 : 1 ≤ p.length := hg1
    have hg2 : p.length ≤ 1000 := hg2
    have hg3 : ns.length ≤ p.length + 1 := hg3
    have hpne : p ≠ [] := List.length_pos_iff.mp hg1
    have hpa1 : H1 pa = some (.tup [.str (S p), .ref nt]) := s1 _ _ hpa
    have hnt : H nt = some (.tup (ns.map V.int)) := hnt
    have hnt1 := s1 _ _ hnt
    refine i_gtup hpa1 rfl (i_gcons (i_name (i_gcons (i_name (i_gnil ?_)))))
    walk_at "go"
    refine for_range (fun j σ H' => ∃ (v6 v7 : Option V), σ = [some (.ref a), some (.str (S w')), some (.str (S (frame w'))), some (.ref t), some (.str (S p)), some (.ref nt), v6, v7] ∧ H' t = some (.lst ((((List.range j).filter (fits p (frame w'))).foldl (fun t b => laid t b ns) T1).map V.int)) ∧ Same H H')
      ⟨_, _, rfl, e1, s1⟩ ?_ ?_
    · rintro j σ H2 hj ⟨v6, v7, rfl, e2, s2⟩
      have hjp : j + p.length ≤ (frame w').length := by omega
      have hnt2 := s2 _ _ hnt
      have hcf := cut_fits (f := frame w') hjp
      have hL1 := fl_length ns ((List.range j).filter (fits p (frame w'))) T1
      have hst : (List.range (j + 1)).filter (fits p (frame w')) = (List.range j).filter (fits p (frame w')) ++ (if fits p (frame w') j = true then [j] else []) := by
        rw [List.range_succ, List.filter_append, List.filter_cons, List.filter_nil]
      rw [hst, List.foldl_append]
      generalize ((List.range j).filter (fits p (frame w'))).foldl (fun t b => laid t b ns) T1 = T2 at e2 hL1 ⊢
      walk_at "go"
      rw [Int.zero_add]
      refine iteD (fun c => ?_) (fun c => ?_)
      · have c' : fits p (frame w') j = true := hcf.mp (S_inj (by injection c))
        rw [if_pos c']
        walk_at "go"
        rw [List.length_map]
        walk_at "go"
        refine for_range (fun k σ H' => ∃ (v7 : Option V), σ = [some (.ref a), some (.str (S w')), some (.str (S (frame w'))), some (.ref t), some (.str (S p)), some (.ref nt), some (.int (j : Int)), v7] ∧ H' t = some (.lst ((laid T2 j (ns.take k)).map V.int)) ∧ Same H H')
          ⟨_, rfl, e2, s2⟩ ?_ ?_
        · rintro k σ H3 hk ⟨v7, rfl, e3, s3⟩
          have hkl : k < ns.length := by omega
          have hnt3 := s3 _ _ hnt
          have hL2 := laid_length (ns.take k) T2 j
          have htk2 : ns.take (k + 1) = ns.take k ++ [ns[k]] := by rw [List.take_succ, List.getElem?_eq_getElem hkl]; rfl
          have hsn := laid_snoc j ns[k] (ns.take k) T2 j
          rw [← htk2, List.length_take, Nat.min_eq_left (Nat.le_of_lt hkl)] at hsn
          rw [hsn]
          generalize laid T2 j (ns.take k) = T3 at e3 hL2 ⊢
          have hbk : j + k < T3.length := by omega
          walk_at "go"
          refine i_ixR (v := .int T3[j + k]) (seqR_lst e3) (atI_of (by omega) (by rw [show ((j : Int) + (0 + (k : Int))).toNat = j + k by omega, List.getElem?_map, List.getElem?_eq_getElem hbk]; rfl)) ?_
          walk_at "go"
          refine i_ixR (v := .int ns[k]) (seqR_tup hnt3) (atI_of (by omega) (by rw [show (0 + (k : Int)).toNat = k by omega, List.getElem?_map, List.getElem?_eq_getElem hkl]; rfl)) ?_
          walk_at "go"
          refine i_set (j := j + k) e3 (by rw [List.length_map]; rw [ixN_of (by omega) (by omega)]; congr 1; omega) ?_
          rw [set_put T3 (j + k) ns[k] hbk]
          walk_at "go"
          refine ⟨_, rfl, upd_same, fun c o e => ?_⟩
          have hct : c ≠ t := fun z => by rw [z, htH] at e; cases e
          rw [upd_ne hct]
          exact s3 c o e
        · rintro σ H3 ⟨v7, rfl, e3, s3⟩
          rw [show ((ns.length : Int)).toNat = ns.length by omega, List.take_length] at e3
          walk_at "go"
          exact ⟨_, _, rfl, e3, s3⟩
      · have c' : ¬ fits p (frame w') j = true := fun z => c (by rw [hcf.mpr z])
        rw [if_neg c']
        walk_at "go"
        exact ⟨_, _, rfl, e2, s2⟩
    · rintro σ H2 ⟨v6, v7, rfl, e2, s2⟩
      rw [range_places hpne] at e2
      walk_at "go"
      exact ⟨_, _, _, _, rfl, e2, s2⟩
  · rintro σ H1 ⟨v4, v5, v6, v7, rfl, e1, s1⟩
    have h2 := hys.length
    rw [List.length_map] at h2
    rw [h2, List.take_length] at e1
    walk_at "go"
    refine i_slL (SqL.of e1) fun r hr1 => ?_
    have hT1 := tellA_length (frame w') xs (List.replicate ((frame w').length + 1) 0)
    rw [List.length_replicate] at hT1
    rw [cutV_eq, cutA_map, cut_mid _ w'.length (by omega) hw1, program_vals xs w' hw1]
    walk_at "go"
    exact q r _ (s1.free hr1) upd_same (s1.trans (same_new hr1 _))
end
abbrev s_law_words : Stmt := top 14
theorem sc_law_words : FnScope ["_law_script", "_law_at", "_law_letters_here", "_law_many", "_law_longest", "_law_words_here", "_law_k", "_law_told", "_law_word"] ["_law_script", "_law_at", "_law_letters_here", "_law_many", "_law_longest"] (defScope s_law_words) := ⟨rfl, rfl, rfl, by decide +kernel, rfl, by decide +kernel, by decide +kernel⟩
theorem flat_strs (l : List Pat) : (l.map fun x => V.str (S x.1)).all flatV = true := by
  rw [List.all_map, List.all_eq_true]; intro x _; rfl
/-- a listed word -/
def GWd (x : Pat) : Prop := Low x.1 ∧ 1 ≤ x.1.length ∧ x.1.length ≤ 7 ∧ x.2.length ≤ 7
/-- words with some gaps -/
def spWords (K : PySem.W.Frag) : Sp := fun vs H Q _ => ∃ (a : Addr) (ns : List Int) (k : Nat) (b : Addr) (l : List Nat) (many lo : Nat), vs = [.ref a, .int (k : Int), .ref b, .int (many : Int), .int (lo : Int)] ∧ SqL K H a (ns.map V.int) ∧ k < 900 ∧ H b = some (.lst (lets l)) ∧ Low l ∧ 1 ≤ l.length ∧ l.length ≤ 26 ∧ many ≤ 20 ∧ 1 ≤ lo ∧ lo ≤ 7 ∧
  ∀ (r : Addr) (ys : List V) (ws : List Pat) (H' : Hp), H r = none → H' r = some (.lst ys) → L2.IsL H' ys (ws.map patD) → (∀ x ∈ ws, GWd x) → ws.length ≤ many → Same H H' → Q (.ref r) H'
section
variable {P : Program} {w : World} {K : PySem.W.Frag} {mg : Str → Option Value} {base : Heap} {f : Addr} {fd : FuncData} {tk : Nat → Tok}
theorem ok_law_words (T : Txt mg tk) (F : Fun K "_law_words" "_law_words" s_law_words f fd) (D_law_row : Dn P w K mg base "_law_row" 1 ["_law_script", "_law_at", "_law_bounds"] (spRow K)) : FnOk P w K mg base CX0 2 f fd ["_law_script", "_law_at", "_law_letters_here", "_law_many", "_law_longest"] (spWords K) := by
  refine F.ok sc_law_words (fun vs H Q E h => ?_) (fun cdv A outer s H vs Q E hr h => ?_)
  · obtain ⟨a, ns, k, b, l, many, lo, rfl, _⟩ := h
    rfl
  obtain ⟨a, ns, k, b, l, many, lo, rfl, hS, hk, hb, hl, hl1, hl2, hm, hlo1, hlo2, q⟩ := h
  have nd := sc_law_words.nd
  refine ⟨_, (pss_cons (ps_set (i := 5) nd rfl (Or.inl rfl) (pe_lst pa_nil))
    (pss_cons (ps_for PassesOwn.never rfl (pi_range1 rfl T.z_range (pa_cons (pv 3) pa_nil)) (pg_name (i := 6) nd rfl (Or.inl rfl))
     (pss_cons (ps_set (i := 7) nd rfl (Or.inr rfl) (pe_callD D_law_row (hr.mono (by first | decide | omega)) rfl (pa_cons (pv 0) (pa_cons (pe_op o_add (pv 1) (pv 6)) (pa_cons (pe_op o_add (pe_op o_add (pe_lst (pa_cons (pv 4) pa_nil)) (pe_op o_mul (pe_lst (pa_cons pe_int pa_nil)) pe_int)) (pe_op o_mul (pe_lst (pa_cons pe_int pa_nil)) pe_int)) pa_nil)))))
    (pss_cons (ps_set (i := 8) nd rfl (Or.inl rfl) (pe_bmK (K := K) PySem.F.plainAttrs_str PySem.F.slot_str_join PySem.F.type_str_join m_join1 pe_str (pa_cons (pe_comp ["_law_letters_here", "_law_number"] [some 2, none] rfl (by kernel_rfl) rfl (pi_any (K := K) (pe_slice (sl_any (K := K)) (pv 7) (po_some pe_int) (po_some (pe_op o_add pe_int (pe_ix (ix_any (K := K)) (pv 7) pe_int (fun _ _ => rfl)))))) (fun _ _ _ _ => (pg_name (i := 1) (show (["_law_letters_here", "_law_number"] : List Str).Nodup by decide +kernel) rfl (Or.inl rfl) (Or.inr rfl))) (fun _ _ _ _ => pts_nil) (fun _ _ _ _ => (pe_ix (ix_any (K := K)) (pv 0) (pe_op o_mod (pv 1) (pe_callB (c_len (K := K)) rfl T.z_len (by decide +kernel) (pa_cons (pv 0) pa_nil))) (fun _ _ => rfl)))) pa_nil)))
    (pss_one (ps_if (pt_cmpR o_notin (pv 8) (pe_comp ["_law_one"] [none] rfl (by kernel_rfl) rfl (pi_any (K := K) (pv 5)) (fun _ _ _ _ => (pg_name (i := 0) (show (["_law_one"] : List Str).Nodup by decide +kernel) rfl (Or.inl rfl) (Or.inr rfl))) (fun _ _ _ _ => pts_nil) (fun _ _ _ _ => (pe_ix (ix_any (K := K)) (pv 0) pe_int (fun _ _ => rfl)))) (by with_unfolding_all rfl))
     (pss_one (ps_expr (pe_bmK (K := K) PySem.F.plainAttrs_list PySem.F.slot_list_append PySem.F.type_list_append m_append1 (pv 5) (pa_cons (pe_tup (pa_cons (pv 8) (pa_cons (pe_callTy c_tuple rfl T.z_tuple (by decide +kernel) (pa_cons (pe_comp ["_law_told", "_law_gap"] [some 7, none] rfl (by kernel_rfl) rfl (pi_range2 rfl T.z_range (pa_cons pe_int (pa_cons (pe_callB (c_len (K := K)) rfl T.z_len (by decide +kernel) (pa_cons (pv 8) pa_nil)) pa_nil))) (fun _ _ _ _ => (pg_name (i := 1) (show (["_law_told", "_law_gap"] : List Str).Nodup by decide +kernel) rfl (Or.inl rfl) (Or.inr rfl))) (fun _ _ _ _ => (pts_one (pt_cmpR (o_eq hr.units) (pe_ix (ix_any (K := K)) (pv 0) (pe_op o_add pe_int (pv 1)) (fun _ _ => rfl)) pe_int (nomark _)))) (fun _ _ _ _ => (pv 1))) pa_nil)) pa_nil))) pa_nil))))
     pss_nil)))))
    (pss_one (ps_ret (pv 5))))), ?_⟩
  rw [show L2.start ["_law_script", "_law_at", "_law_letters_here", "_law_many", "_law_longest", "_law_words_here", "_law_k", "_law_told", "_law_word"] [.ref a, .int (k : Int), .ref b, .int (many : Int), .int (lo : Int)] = [some (.ref a), some (.int (k : Int)), some (.ref b), some (.int (many : Int)), some (.int (lo : Int)), none, none, none, none] from rfl]
  rw [t_empty]
  have hll : (lets l).length = l.length := by rw [lets, List.length_map]
  walk_at "go"
  intro r hr0
  have s0 := same_new hr0 (.lst [])
  walk_at "go"
  refine for_range (fun i σ H' => ∃ (v6 v7 v8 : Option V) (ys : List V) (ws : List Pat), σ = [some (.ref a), some (.int (k : Int)), some (.ref b), some (.int (many : Int)), some (.int (lo : Int)), some (.ref r), v6, v7, v8] ∧ H' r = some (.lst ys) ∧ L2.IsL H' ys (ws.map patD) ∧ (∀ x ∈ ws, GWd x) ∧ ws.length ≤ i ∧ Same H H')
    ⟨none, none, none, [], [], rfl, upd_same, (by simp [L2.IsL]), (fun x hx => nomatch hx), Nat.le_refl _, s0⟩ ?_ ?_
  · rintro i σ H1 hi ⟨v6, v7, v8, ys, ws, rfl, e1, hys, hws, hwl, s1⟩
    have hyl := hys.length
    rw [List.length_map] at hyl
    walk_at "go"
    intro p1 h1
    walk_at "go"
    intro p2 h2
    walk_at "go"
    refine i_mulZ upd_same (by decide) fun p3 h3 => ?_
    have e31 : (upd (upd (upd H1 p1 (.lst [.int (lo : Int)])) p2 (.lst [.int 4])) p3 (.lst (List.replicate (7 : Int).toNat (.int 4)))) p1 = some (.lst [.int (lo : Int)]) := (same_new h3 _) _ _ ((same_new h2 _) _ _ upd_same)
    have s3 := ((same_new h1 (.lst [.int (lo : Int)])).trans (same_new h2 (.lst [.int 4]))).trans (same_new h3 (.lst (List.replicate (7 : Int).toNat (.int 4))))
    walk_at "go"
    refine i_addL e31 upd_same (szn (show 8 ≤ 1000000 by decide)) fun p4 h4 => ?_
    have s4 := s3.trans (same_new h4 (.lst ([.int (lo : Int)] ++ List.replicate (7 : Int).toNat (.int 4))))
    have e4 := upd_same (H := upd (upd (upd H1 p1 (.lst [.int (lo : Int)])) p2 (.lst [.int 4])) p3 (.lst (List.replicate (7 : Int).toNat (.int 4)))) (a := p4) (o := .lst ([.int (lo : Int)] ++ List.replicate (7 : Int).toNat (.int 4)))
    generalize upd (upd (upd (upd H1 p1 (.lst [.int (lo : Int)])) p2 (.lst [.int 4])) p3 (.lst (List.replicate (7 : Int).toNat (.int 4)))) p4 (.lst ([.int (lo : Int)] ++ List.replicate (7 : Int).toNat (.int 4))) = H4 at s4 e4 ⊢
    walk_at "go"
    intro p5 h5
    walk_at "go"
    refine i_mulZ upd_same (by decide) fun p6 h6 => ?_
    have e64 : (upd (upd H4 p5 (.lst [.int 2])) p6 (.lst (List.replicate (6 : Int).toNat (.int 2)))) p4 = _ := (same_new h6 _) _ _ ((same_new h5 _) _ _ e4)
    have s6 := (s4.trans (same_new h5 (.lst [.int 2]))).trans (same_new h6 (.lst (List.replicate (6 : Int).toNat (.int 2))))
    walk_at "go"
    refine i_addL e64 upd_same (szn (show 14 ≤ 1000000 by decide)) fun p7 h7 => ?_
    have s7 := s6.trans (same_new h7 (.lst (([.int (lo : Int)] ++ List.replicate (7 : Int).toNat (.int 4)) ++ List.replicate (6 : Int).toNat (.int 2))))
    have e7 := upd_same (H := upd (upd H4 p5 (.lst [.int 2])) p6 (.lst (List.replicate (6 : Int).toNat (.int 2)))) (a := p7) (o := .lst (([.int (lo : Int)] ++ List.replicate (7 : Int).toNat (.int 4)) ++ List.replicate (6 : Int).toNat (.int 2)))
    generalize upd (upd (upd H4 p5 (.lst [.int 2])) p6 (.lst (List.replicate (6 : Int).toNat (.int 2)))) p7 (.lst (([.int (lo : Int)] ++ List.replicate (7 : Int).toNat (.int 4)) ++ List.replicate (6 : Int).toNat (.int 2))) = H7 at s7 e7 ⊢
    have e7 : H7 p7 = some (.lst ([(lo : Int), 4, 4, 4, 4, 4, 4, 4, 2, 2, 2, 2, 2, 2].map V.int)) := e7
    clear e64 s6 h6 h5 e4 s4 h4 s3 e31 h3 h2 h1
    walk_at "go"
    refine ⟨a, ns, k + i, p7, [(lo : Int), 4, 4, 4, 4, 4, 4, 4, 2, 2, 2, 2, 2, 2], by simp only [Int.natCast_add, Int.zero_add]; rfl, (s1.trans s7).seq hS, by omega, e7, (show 14 ≤ 100 by decide), fun x hx => ?_, fun t ds H8 ht0 et hdl hds s8 => ?_⟩
    · simp only [List.mem_cons, List.not_mem_nil, or_false] at hx
      rcases hx with h | h | h | h | h | h | h | h | h | h | h | h | h | h <;> subst h <;> omega
    have hdl : ds.length = 14 := hdl
    have s18 := s7.trans s8
    have s08 := s1.trans s18
    have hb8 := s08 _ _ hb
    have e8 := s18 _ _ e1
    have hys8 := IsL.same s18 hys
    clear s8 s7 e7 ht0
    obtain ⟨hd0, hd1⟩ := hds 0 (ds[0]'(by omega)) (lo : Int) (List.getElem?_eq_getElem _) rfl
    have hdn : ∀ x ∈ ds, 0 ≤ x := fun x hx => by
      obtain ⟨j, hj, rfl⟩ := List.mem_iff_getElem.mp hx
      have hj2 : j < [(lo : Int), 4, 4, 4, 4, 4, 4, 4, 2, 2, 2, 2, 2, 2].length := by rw [hdl] at hj; exact hj
      exact (hds j _ _ (List.getElem?_eq_getElem hj) (List.getElem?_eq_getElem hj2)).1
    have ad0 : atI (ds.map V.int) 0 = some (.int (ds[0]'(by omega))) := atI_of (by decide) (by rw [List.getElem?_map]; show Option.map V.int ds[0]? = _; rw [List.getElem?_eq_getElem (by omega)]; rfl)
    generalize (ds[0]'(by omega)) = d0 at hd0 hd1 ad0
    walk_at "go"
    refine i_slL (SqL.of et) fun g hg0 => ?_
    rw [cutV_eq, cutA_map]
    have hcl := cut_length ds (some 1) (some (2 + d0))
    have hx1 : sx ds.length 0 (some 1) = 1 := by simp only [sx]; rw [if_neg (by decide)]; show min 1 ds.length = 1; omega
    have hx2 : sx ds.length ds.length (some (2 + d0)) = 2 + d0.toNat := by simp only [sx]; rw [if_neg (by omega)]; omega
    rw [hx1, hx2] at hcl
    have hcm : ∀ v ∈ cutA ds (some 1) (some (2 + d0)), 0 ≤ v := fun v hv => hdn v (List.mem_of_mem_drop (List.mem_of_mem_take hv))
    generalize cutA ds (some 1) (some (2 + d0)) = cs at hcl hcm ⊢
    have s9 := same_new hg0 (.lst (cs.map V.int))
    have e9 := upd_same (H := H8) (a := g) (o := .lst (cs.map V.int))
    generalize upd H8 g (.lst (cs.map V.int)) = H9 at s9 e9 ⊢
    have hb9 := s9 _ _ hb8
    walk_at "go"
    intro n hn0
    refine comp_list (K := K) (xs := cs.map V.int) (fun j acc σ H' => ∃ (v : Option V) (us : List Nat), σ = [some (.ref b), v] ∧ acc = lets us ∧ us.length = j ∧ Low us ∧ H' n = some (.lst acc) ∧ Same H9 H')
      (fun j acc σ H' _ ⟨_, _, _, _, _, _, _, s3⟩ => SqL.of (s3 _ _ e9)) ⟨none, [], rfl, rfl, rfl, (fun u hu => nomatch hu), upd_same, same_new hn0 _⟩ (fun j acc σ H' ⟨_, us, _, e, e1, _, e3, _⟩ => ⟨e3, by rw [e, lets, List.length_map]; omega⟩) (szn (by rw [List.length_map]; omega)) ?_ ?_
    · rintro j acc σ H10 hj ⟨v, us, rfl, rfl, hul, hus, e10, s10⟩
      have hj' : j < cs.length := by simpa using hj
      have hgd : (cs.map V.int).getD j .non = V.int cs[j] := by
        rw [List.getD_eq_getElem?_getD, List.getElem?_map, List.getElem?_eq_getElem hj']; rfl
      rw [hgd]
      have hu0 := hcm _ (List.getElem_mem hj')
      generalize cs[j] = dx at hu0 ⊢
      have hb10 := s10 _ _ hb9
      walk_at "go"
      rw [hll]
      have hc0 := Int.emod_nonneg dx (show (l.length : Int) ≠ 0 by omega)
      have hc1 := Int.emod_lt_of_pos dx (show (0 : Int) < (l.length : Int) by omega)
      generalize dx % (l.length : Int) = c at hc0 hc1 ⊢
      have hcl2 : c.toNat < l.length := by omega
      refine i_ixR (v := .str (S [l[c.toNat]])) (seqR_lst hb10) (atI_of hc0 (by rw [lets, List.getElem?_map, List.getElem?_eq_getElem hcl2]; rfl)) ?_
      refine ⟨e10, _, us ++ [l[c.toNat]], rfl, by rw [lets, lets, List.map_append]; rfl, by rw [List.length_append, hul]; rfl, Low_append hus (fun x hx => ?_), upd_same, fun b' o e => ?_⟩
      · have : x = l[c.toNat] := by simpa using hx
        rw [this]
        exact hl _ (List.getElem_mem _)
      · have hbr : b' ≠ n := fun z => by rw [z, hn0] at e; cases e
        rw [upd_ne hbr]; exact s10 b' o e
    · rintro acc σ H10 ⟨v, us, rfl, rfl, hul, hus, e10, s10⟩
      rw [List.length_map] at hul
      walk_at "go"
      have hs := sum_one us
      refine i_join (ys := us.map fun c => S [c]) (by rw [← map_one]; exact lstR_of e10) ?_ ?_
      · rw [hs, List.length_map, S_length]
        simp only [List.length_nil, Nat.mul_zero]
        omega
      rw [joined_one]
      have hu1 : 1 ≤ us.length ∧ us.length ≤ 7 := by omega
      have s810 := s9.trans s10
      have e11 := s810 _ _ e8
      have hys11 := IsL.same s810 hys8
      have et11 := s810 _ _ et
      have s0_11 := s08.trans s810
      clear hs e10 hul hn0 s9 s10 e9 hb9 hcm hcl
      walk_at "go"
      intro m hm0
      refine comp_list (K := K) (xs := ys) (fun j acc σ H' => ∃ (v : Option V), σ = [v] ∧ acc = (ws.take j).map (fun x => V.str (S x.1)) ∧ H' m = some (.lst acc) ∧ Same H10 H')
        (fun j acc σ H' _ ⟨_, _, _, _, s3⟩ => SqL.of (s3 _ _ e11)) ⟨none, rfl, rfl, upd_same, same_new hm0 _⟩ (fun j acc σ H' ⟨_, _, e, e3, _⟩ => ⟨e3, by rw [e, List.length_map, List.length_take]; omega⟩) (szn (by omega)) ?_ ?_
      · rintro j acc σ H12 hj ⟨v, rfl, rfl, e12, s12⟩
        have hjl : j < ws.length := by omega
        obtain ⟨x', d, hx1, hx2, hx3⟩ := IsL.get hys11 (i := j) (by rw [List.length_map]; exact hjl)
        rw [List.getElem?_map, List.getElem?_eq_getElem hjl] at hx2
        cases hx2
        have hgd : ys.getD j .non = x' := by rw [List.getD_eq_getElem?_getD, hx1]; rfl
        rw [hgd]
        obtain ⟨pa, nt, rfl, hpa, hnt⟩ := isPat hx3
        have hpa12 := s12 _ _ hpa
        walk_at "go"
        refine ⟨e12, _, rfl, ?_, upd_same, fun b' o e => ?_⟩
        · rw [List.take_succ, List.getElem?_eq_getElem hjl, List.map_append]; rfl
        · have hbr : b' ≠ m := fun z => by rw [z, hm0] at e; cases e
          rw [upd_ne hbr]; exact s12 b' o e
      · rintro acc σ H12 ⟨v, rfl, rfl, e12, s12⟩
        rw [hyl, List.take_length] at e12
        have e13 := s12 _ _ e11
        have hys13 := IsL.same s12 hys11
        have et13 := s12 _ _ et11
        have s0_13 := s0_11.trans s12
        walk_at "go"
        refine i_inR (seqR_lst e12) ⟨rfl, flat_strs _⟩ ?_
        walk_at "go"
        refine iteB (fun c => ?_) (fun c => ?_)
        · walk_at "go"
          intro z hz0
          refine comp_range (fun j acc σ H' => ∃ (v : Option V) (gs : List Int), σ = [some (.ref t), v] ∧ acc = gs.map V.int ∧ gs.length ≤ j ∧ H' z = some (.lst acc) ∧ Same H12 H')
            ⟨none, [], rfl, rfl, Nat.le_refl _, upd_same, same_new hz0 _⟩ (fun j acc σ H' ⟨_, gs, _, e, e1, e3, _⟩ => ⟨e3, by rw [e, List.length_map]; omega⟩) (szn (by omega)) ?_ ?_
          · rintro j acc σ H14 hj ⟨v, gs, rfl, rfl, hgl, e14, s14⟩
            have hjl : 8 + j < ds.length := by omega
            have et14 := s14 _ _ et13
            walk_at "go"
            refine i_ixR (v := .int ds[8 + j]) (seqR_lst et14) (atI_of (by omega) (by rw [show (7 + (1 + (j : Int))).toNat = 8 + j by omega, List.getElem?_map, List.getElem?_eq_getElem hjl]; rfl)) ?_
            walk_at "go"
            refine iteD (fun c2 => ?_) (fun c2 => ?_)
            · walk_at "go"
              refine ⟨e14, _, gs ++ [1 + (j : Int)], rfl, by rw [List.map_append]; rfl, by rw [List.length_append]; show _ + 1 ≤ _; omega, upd_same, fun b' o e => ?_⟩
              have hbr : b' ≠ z := fun y => by rw [y, hz0] at e; cases e
              rw [upd_ne hbr]; exact s14 b' o e
            · exact ⟨_, gs, rfl, rfl, by omega, e14, s14⟩
          · rintro acc σ H14 ⟨v, gs, rfl, rfl, hgl, e14, s14⟩
            have hgl : gs.length ≤ 7 := by omega
            walk_at "go"
            refine i_tupleR (seqR_lst e14) fun t' H15 ht' s15 => ?_
            have s1315 := s14.trans s15
            have e15 := s1315 _ _ e13
            have hys15 := IsL.same s1315 hys13
            have s0_15 := s0_13.trans s1315
            clear e14 s14 s15 hz0
            walk_at "go"
            intro y hy0
            have yr : r ≠ y := ne_of_none e15 hy0
            have e16 : (upd H15 y (.tup [.str (S us), .ref t'])) r = some (.lst ys) := by rw [upd_ne yr]; exact e15
            have hsz : ys.length < sizeLine := szn (by omega)
            walk_at "go"
            have k4 : Tk H15 (upd (upd H15 y (.tup [.str (S us), .ref t'])) r (.lst (ys ++ [.ref y]))) := (Tk.new hy0 _).trans (Tk.lst e16 _)
            refine ⟨_, _, _, ys ++ [.ref y], ws ++ [(us, gs)], rfl, upd_same, ?_, fun x hx => ?_, by rw [List.length_append]; show _ + 1 ≤ _; omega, fun b' o e => ?_⟩
            · rw [List.map_append]
              refine IsL.snoc (IsL.tk k4 (tOnly_pats _) hys15) (isPat_mk (x := (us, gs)) ?_ (k4 _ _ ht'))
              rw [upd_ne yr.symm]; exact upd_same
            · rcases List.mem_append.mp hx with h | h
              · exact hws x h
              · have : x = (us, gs) := by simpa using h
                rw [this]; exact ⟨hus, hu1.1, hu1.2, hgl⟩
            · have hbr : b' ≠ r := fun z => by rw [z, hr0] at e; cases e
              rw [upd_ne hbr]; exact (same_new hy0 _) _ _ (s0_15 _ _ e)
        · walk_at "go"
          exact ⟨_, _, _, ys, ws, rfl, e13, hys13, hws, by omega, s0_13⟩
  · rintro σ H1 ⟨v6, v7, v8, ys, ws, rfl, e1, hys, hws, hwl, s1⟩
    walk_at "go"
    exact q r ys ws H1 hr0 e1 hys hws (by omega) s1
end
abbrev s_seen_gaps : Stmt := top 6
theorem sc_seen_gaps : FnScope ["words", "patterns", "seen", "word", "told", "broken"] ["words", "patterns"] (defScope s_seen_gaps) := ⟨rfl, rfl, rfl, by decide +kernel, rfl, by decide +kernel, by decide +kernel⟩
abbrev s_missed : Stmt := top 7
theorem sc_missed : FnScope ["words", "patterns"] ["words", "patterns"] (defScope s_missed) := ⟨rfl, rfl, rfl, by decide +kernel, rfl, by decide +kernel, by decide +kernel⟩
abbrev s_wrong : Stmt := top 8
theorem sc_wrong : FnScope ["words", "patterns"] ["words", "patterns"] (defScope s_wrong) := ⟨rfl, rfl, rfl, by decide +kernel, rfl, by decide +kernel, by decide +kernel⟩
/-- what is seen at a gap: word, gap, told, broken -/
structure Seen where
  w : List Nat
  g : Int
  t : Bool
  b : Bool
def seenD (x : Seen) : Dt := .tup [.str (S x.w), .int x.g, .bl x.t, .bl x.b]
def gapD (x : List Nat × Int) : Dt := .tup [.str (S x.1), .int x.2]
def seenW (xs : List Pat) (x : Pat) (j : Nat) : Seen := ⟨x.1, (j : Int) + 1, decide ((j : Int) + 1 ∈ x.2), oddAt (vals xs x.1) j⟩
def seenA (xs ws : List Pat) : List Seen := ws.flatMap fun x => (List.range (x.1.length - 1)).map (seenW xs x)
def gapsBy (p : Seen → Bool) (l : List Seen) : List (List Nat × Int) := (l.filter p).map fun s => (s.w, s.g)
theorem gapsBy_append (p : Seen → Bool) (a b : List Seen) : gapsBy p (a ++ b) = gapsBy p a ++ gapsBy p b := by unfold gapsBy; rw [List.filter_append, List.map_append]
theorem gapsBy_one (p : Seen → Bool) (s : Seen) : gapsBy p [s] = if p s = true then [(s.w, s.g)] else [] := by
  unfold gapsBy
  by_cases h : p s = true
  · rw [List.filter_cons, if_pos h, if_pos h]; rfl
  · rw [List.filter_cons, if_neg h, if_neg h]; rfl
theorem gapsBy_len (p : Seen → Bool) (l : List Seen) : (gapsBy p l).length ≤ l.length := by unfold gapsBy; rw [List.length_map]; exact List.length_filter_le _ _
theorem seenA_take {xs ws : List Pat} {i : Nat} (h : i < ws.length) : seenA xs (ws.take (i + 1)) = seenA xs (ws.take i) ++ (List.range (ws[i].1.length - 1)).map (seenW xs ws[i]) := by
  unfold seenA
  rw [List.take_succ, List.getElem?_eq_getElem h, List.flatMap_append]
  simp
theorem seenA_len {xs : List Pat} {m : Nat} : ∀ {ws : List Pat}, (∀ x ∈ ws, x.1.length ≤ m) → (seenA xs ws).length ≤ ws.length * m
  | [], _ => by simp [seenA]
  | x :: ws, h => by
    have h1 := seenA_len (xs := xs) (m := m) (ws := ws) fun y hy => h y (List.mem_cons_of_mem _ hy)
    have h2 := h x List.mem_cons_self
    unfold seenA at h1 ⊢
    rw [List.flatMap_cons, List.length_append, List.length_map, List.length_range, List.length_cons, Nat.add_mul]
    omega
theorem mem_brks (vs : List Int) (j : Nat) : decide ((j : Int) + 1 ∈ brks vs) = oddAt vs j := by
  unfold brks
  by_cases h : oddAt vs j = true
  · rw [h]
    apply decide_eq_true
    refine List.mem_map.mpr ⟨j, List.mem_filter.mpr ⟨List.mem_range.mpr ?_, h⟩, rfl⟩
    unfold oddAt at h
    by_cases hj : j < vs.length
    · exact hj
    · simp [List.getD_eq_getElem?_getD, List.getElem?_eq_none (Nat.le_of_not_lt hj)] at h
  · have h' : oddAt vs j = false := by simpa using h
    rw [h']
    apply decide_eq_false
    intro hc
    obtain ⟨k, hk, hk2⟩ := List.mem_map.mp hc
    have : k = j := by omega
    subst this
    exact h (List.mem_filter.mp hk).2
theorem tOnly_seen (l : List Seen) : tOnlyL (l.map seenD) = true := tOnlyL_of fun d hd => by
  obtain ⟨x, _, rfl⟩ := List.mem_map.mp hd
  rfl
theorem tOnly_gaps (l : List (List Nat × Int)) : tOnlyL (l.map gapD) = true := tOnlyL_of fun d hd => by
  obtain ⟨x, _, rfl⟩ := List.mem_map.mp hd
  rfl
theorem isSeen {H : Hp} {v : V} {x : Seen} (h : Is H v (seenD x)) : ∃ a, v = .ref a ∧ H a = some (.tup [.str (S x.w), .int x.g, .bl x.t, .bl x.b]) := by
  simp only [Is, seenD] at h
  obtain ⟨a, ys, rfl, ha, hy⟩ := h
  match ys, hy with
  | [y1, y2, y3, y4], hy =>
    simp only [L2.IsL, Is] at hy
    obtain ⟨h1, h2, h3, h4, _⟩ := hy
    subst h1 h2 h3 h4
    exact ⟨a, rfl, ha⟩
  | [], hy => simp only [L2.IsL] at hy
  | [_], hy => simp only [L2.IsL] at hy; exact hy.2.elim
  | [_, _], hy => simp only [L2.IsL] at hy; exact hy.2.2.elim
  | [_, _, _], hy => simp only [L2.IsL] at hy; exact hy.2.2.2.elim
  | _ :: _ :: _ :: _ :: _ :: _, hy => simp only [L2.IsL] at hy; exact hy.2.2.2.2.elim
theorem isSeen_mk {H : Hp} {a : Addr} {x : Seen} (h : H a = some (.tup [.str (S x.w), .int x.g, .bl x.t, .bl x.b])) : Is H (.ref a) (seenD x) := by
  simp only [Is, seenD]
  exact ⟨a, _, rfl, h, by simp only [L2.IsL, Is, and_self]⟩
theorem isGap_mk {H : Hp} {a : Addr} {x : List Nat × Int} (h : H a = some (.tup [.str (S x.1), .int x.2])) : Is H (.ref a) (gapD x) := by
  simp only [Is, gapD]
  exact ⟨a, _, rfl, h, by simp only [L2.IsL, Is, and_self]⟩
/-- what the gaps of the words show -/
def spSeen : Sp := fun vs H Q _ => ∃ (v u : V) (ws xs : List Pat), vs = [v, u] ∧ Is H v (patsD ws) ∧ Is H u (patsD xs) ∧ (∀ x ∈ xs, 1 ≤ x.1.length ∧ x.1.length ≤ 1000 ∧ x.2.length ≤ x.1.length + 1) ∧ xs.length ≤ 1000 ∧ (∀ x ∈ ws, 1 ≤ x.1.length ∧ x.1.length ≤ 100) ∧ ws.length ≤ 100 ∧
  ∀ (r : Addr) (zs : List V) (H' : Hp), H r = none → H' r = some (.lst zs) → L2.IsL H' zs ((seenA xs ws).map seenD) → Same H H' → Q (.ref r) H'
/-- the gaps of one kind -/
def spGaps (p : Seen → Bool) : Sp := fun vs H Q _ => ∃ (v u : V) (ws xs : List Pat), vs = [v, u] ∧ Is H v (patsD ws) ∧ Is H u (patsD xs) ∧ (∀ x ∈ xs, 1 ≤ x.1.length ∧ x.1.length ≤ 1000 ∧ x.2.length ≤ x.1.length + 1) ∧ xs.length ≤ 1000 ∧ (∀ x ∈ ws, 1 ≤ x.1.length ∧ x.1.length ≤ 100) ∧ ws.length ≤ 100 ∧
  ∀ (r : Addr) (zs : List V) (H' : Hp), H r = none → H' r = some (.lst zs) → L2.IsL H' zs ((gapsBy p (seenA xs ws)).map gapD) → Same H H' → Q (.ref r) H'
/-- told and not broken -/
def isMiss (s : Seen) : Bool := s.t && !s.b
/-- broken and not told -/
def isWrong (s : Seen) : Bool := s.b && !s.t
section
variable {P : Program} {w : World} {K : PySem.W.Frag} {mg : Str → Option Value} {base : Heap} {f : Addr} {fd : FuncData} {tk : Nat → Tok}
theorem ok_seen_gaps (T : Txt mg tk) (F : Fun K "seen_gaps" "seen_gaps" s_seen_gaps f fd) (D_breaks : Dn P w K mg base "breaks" 3 ["patterns", "word"] spBreaks) : FnOk P w K mg base CX0 4 f fd ["words", "patterns"] spSeen := by
  refine F.ok sc_seen_gaps (fun vs H Q E h => ?_) (fun cdv A outer s H vs Q E hr h => ?_)
  · obtain ⟨v, u, ws, xs, rfl, _⟩ := h
    rfl
  obtain ⟨v, u, ws, xs, rfl, hv, hu, hxs, hxl, hws, hwl, q⟩ := h
  obtain ⟨a, ys, rfl, ha, hys⟩ := isPats hv
  have nd := sc_seen_gaps.nd
  refine ⟨_, (pss_cons (ps_set (i := 2) nd rfl (Or.inl rfl) (pe_lst pa_nil))
    (pss_cons (ps_for PassesOwn.never rfl (pi_any (K := K) (pv 0)) (pg_tup rfl (pgs_cons (pg_name (i := 3) nd rfl (Or.inr rfl)) (pgs_cons (pg_name (i := 4) nd rfl (Or.inr rfl)) pgs_nil)))
     (pss_cons (ps_set (i := 5) nd rfl (Or.inr rfl) (pe_callD D_breaks (hr.mono (by first | decide | omega)) rfl (pa_cons (pv 1) (pa_cons (pv 3) pa_nil))))
    (pss_one (ps_expr (pe_bmK (K := K) PySem.F.plainAttrs_list PySem.F.slot_list_extend PySem.F.type_list_extend m_extend1 (pv 2) (pa_cons (pe_comp ["word", "told", "broken", "gap"] [some 3, some 4, some 5, none] rfl (by kernel_rfl) rfl (pi_range2 rfl T.z_range (pa_cons pe_int (pa_cons (pe_callB (c_len (K := K)) rfl T.z_len (by decide +kernel) (pa_cons (pv 3) pa_nil)) pa_nil))) (fun _ _ _ _ => (pg_name (i := 3) (show (["word", "told", "broken", "gap"] : List Str).Nodup by decide +kernel) rfl (Or.inl rfl) (Or.inr rfl))) (fun _ _ _ _ => pts_nil) (fun _ _ _ _ => (pe_tup (pa_cons (pv 0) (pa_cons (pv 3) (pa_cons (pe_cmpR o_in (pv 3) (pv 1) (by with_unfolding_all rfl)) (pa_cons (pe_cmpR o_in (pv 3) (pv 2) (by with_unfolding_all rfl)) pa_nil))))))) pa_nil))))))
    (pss_one (ps_ret (pv 2))))), ?_⟩
  rw [show L2.start ["words", "patterns", "seen", "word", "told", "broken"] [.ref a, u] = [some (.ref a), some (u), none, none, none, none] from rfl]
  walk_at "go"
  intro r hr0
  have ra : (upd H r (.lst [])) a = some (.lst ys) := (same_new hr0 _) _ _ ha
  walk_at "go"
  refine for_list (K := K) (xs := ys) (fun i σ H' => ∃ (v3 v4 v5 : Option V) (zs : List V), σ = [some (.ref a), some u, some (.ref r), v3, v4, v5] ∧ H' r = some (.lst zs) ∧ L2.IsL H' zs ((seenA xs (ws.take i)).map seenD) ∧ Same H H')
    ⟨none, none, none, [], rfl, upd_same, (by simp [seenA, L2.IsL]), same_new hr0 _⟩ (fun i σ H' _ ⟨_, _, _, _, _, _, _, s1⟩ => SqL.of (s1 _ _ ha)) ?_ ?_
  · rintro i x σ H1 hx ⟨v3, v4, v5, zs, rfl, e1, hz1, s1⟩
    have hil : i < ws.length := by
      have h1 := (List.getElem?_eq_some_iff.mp hx).1
      have h2 := hys.length
      rw [List.length_map] at h2; omega
    obtain ⟨x', d, hx1, hx2, hx3⟩ := IsL.get hys (i := i) (by rw [List.length_map]; exact hil)
    rw [hx] at hx1
    cases hx1
    rw [List.getElem?_map, List.getElem?_eq_getElem hil] at hx2
    cases hx2
    obtain ⟨pa, nt, rfl, hpa, hnt⟩ := isPat hx3
    obtain ⟨hg1, hg2⟩ := hws _ (List.getElem_mem hil)
    have hzl : zs.length ≤ 100 * 100 := by
      have h1 := hz1.length
      rw [List.length_map] at h1
      have h2 := seenA_len (xs := xs) (m := 100) (ws := ws.take i) fun y hy => (hws y (List.mem_of_mem_take hy)).2
      have h3 : (ws.take i).length * 100 ≤ 100 * 100 := Nat.mul_le_mul_right _ (by rw [List.length_take]; omega)
      omega
    rw [seenA_take hil]
    generalize ws[i] = xi at hpa hnt hg1 hg2 ⊢
    obtain ⟨w', g⟩ := xi
    have hg1 : 1 ≤ w'.length := hg1
    have hg2 : w'.length ≤ 100 := hg2
    have hpa1 : H1 pa = some (.tup [.str (S w'), .ref nt]) := s1 _ _ hpa
    have hnt1 : H1 nt = some (.tup (g.map V.int)) := s1 _ _ hnt
    refine i_gtup hpa1 rfl (i_gcons (i_name (i_gcons (i_name (i_gnil ?_)))))
    walk_at "go"
    refine ⟨u, xs, w', rfl, Is.same s1 hu, hxs, hxl, hg1, hg2, fun t H2 ht s2 => ?_⟩
    have hnt2 := s2 _ _ hnt1
    have e12 := s2 _ _ e1
    walk_at "go"
    intro c hc0
    have rc : r ≠ c := ne_of_none (s2 _ _ e1) hc0
    refine comp_range (fun j acc σ H' => ∃ v, σ = [some (.str (S w')), some (.ref nt), some (.ref t), v] ∧ acc.length = j ∧ H' c = some (.lst acc) ∧ L2.IsL H' acc (((List.range j).map (seenW xs (w', g))).map seenD) ∧ Same H2 H')
      ⟨none, rfl, rfl, upd_same, (by simp [L2.IsL]), same_new hc0 _⟩ (fun j acc σ H' ⟨_, _, e, e3, _⟩ => ⟨e3, Nat.le_of_eq e⟩) (szn (by omega)) ?_ ?_
    · rintro j acc σ H3 hj ⟨v, rfl, hal, e3, hz3, s3⟩
      have hnt3 := s3 _ _ hnt2
      have ht3 := s3 _ _ ht
      walk_at "go"
      refine i_inR (seqR_tup hnt3) ⟨rfl, flat_ints _⟩ ?_
      walk_at "go"
      refine i_inR (seqR_tup ht3) ⟨rfl, flat_ints _⟩ ?_
      walk_at "go"
      have hb1 : (if false = true then !inV (.int (1 + (j : Int))) (g.map V.int) else inV (.int (1 + (j : Int))) (g.map V.int)) = decide ((j : Int) + 1 ∈ g) := by
        rw [if_neg Bool.false_ne_true, inV_ints, Int.add_comm]
      have hb2 : (if false = true then !inV (.int (1 + (j : Int))) ((brks (vals xs w')).map V.int) else inV (.int (1 + (j : Int))) ((brks (vals xs w')).map V.int)) = oddAt (vals xs w') j := by
        rw [if_neg Bool.false_ne_true, inV_ints, Int.add_comm, mem_brks]
      rw [hb1, hb2, Int.add_comm 1 (j : Int)]
      intro p hp0
      have tc : c ≠ p := ne_of_none e3 hp0
      have e4 : (upd H3 p (.tup [.str (S w'), .int ((j : Int) + 1), .bl (decide ((j : Int) + 1 ∈ g)), .bl (oddAt (vals xs w') j)])) c = some (.lst acc) := by rw [upd_ne tc]; exact e3
      have k4 : Tk H3 (upd (upd H3 p (.tup [.str (S w'), .int ((j : Int) + 1), .bl (decide ((j : Int) + 1 ∈ g)), .bl (oddAt (vals xs w') j)])) c (.lst (acc ++ [.ref p]))) := (Tk.new hp0 _).trans (Tk.lst e4 _)
      refine ⟨e4, _, rfl, by simp [hal], upd_same, ?_, fun b o e => ?_⟩
      · rw [List.range_succ, List.map_append, List.map_append]
        refine IsL.snoc (IsL.tk k4 (tOnly_seen _) hz3) (isSeen_mk (x := seenW xs (w', g) j) ?_)
        rw [upd_ne tc.symm]; exact upd_same
      · have hbc : b ≠ c := fun z => by rw [z, hc0] at e; cases e
        rw [upd_ne hbc]; exact (same_new hp0 _) _ _ (s3 _ _ e)
    · rintro acc σ H3 ⟨v, rfl, hal, e3, hz3, s3⟩
      have hn : ((w'.length : Int) - 1).toNat = w'.length - 1 := by omega
      rw [hn] at hal hz3
      have e3r : H3 r = some (.lst zs) := s3 _ _ (s2 _ _ e1)
      walk_at "go"
      refine i_extL e3r e3 (szn (by omega)) ?_
      walk_at "go"
      have k5 : Tk H3 (upd H3 r (.lst (zs ++ acc))) := Tk.lst e3r _
      refine ⟨_, _, _, zs ++ acc, rfl, upd_same, ?_, fun b o e => ?_⟩
      · rw [List.map_append]
        exact IsL.append (IsL.tk k5 (tOnly_seen _) (IsL.same (s2.trans s3) hz1)) (IsL.tk k5 (tOnly_seen _) hz3)
      · have hbr : b ≠ r := fun z => by rw [z, hr0] at e; cases e
        rw [upd_ne hbr]; exact s3 _ _ (s2 _ _ (s1 _ _ e))
  · rintro σ H1 ⟨v3, v4, v5, zs, rfl, e1, hz1, s1⟩
    have h2 := hys.length
    rw [List.length_map] at h2
    rw [h2, List.take_length] at hz1
    walk_at "go"
    exact q r zs H1 hr0 e1 hz1 s1
theorem ok_missed (T : Txt mg tk) (F : Fun K "missed" "missed" s_missed f fd) (D_seen_gaps : Dn P w K mg base "seen_gaps" 4 ["words", "patterns"] spSeen) : FnOk P w K mg base CX0 5 f fd ["words", "patterns"] (spGaps isMiss) := by
  refine F.ok sc_missed (fun vs H Q E h => ?_) (fun cdv A outer s H vs Q E hr h => ?_)
  · obtain ⟨v, u, ws, xs, rfl, _⟩ := h
    rfl
  obtain ⟨v, u, ws, xs, rfl, hv, hu, hxs, hxl, hws, hwl, q⟩ := h
  have nd := sc_missed.nd
  refine ⟨_, (pss_one (ps_ret (pe_comp ["word", "gap", "told", "broken"] [none, none, none, none] rfl (by kernel_rfl) rfl (pi_any (K := K) (pe_callD D_seen_gaps (hr.mono (by first | decide | omega)) rfl (pa_cons (pv 0) (pa_cons (pv 1) pa_nil)))) (fun _ _ _ _ => (pg_tupK (K := K) (n := 4) rfl rfl (pgs_cons (pg_name (i := 0) (show (["word", "gap", "told", "broken"] : List Str).Nodup by decide +kernel) rfl (Or.inl rfl) (Or.inr rfl)) (pgs_cons (pg_name (i := 1) (show (["word", "gap", "told", "broken"] : List Str).Nodup by decide +kernel) rfl (Or.inl rfl) (Or.inr rfl)) (pgs_cons (pg_name (i := 2) (show (["word", "gap", "told", "broken"] : List Str).Nodup by decide +kernel) rfl (Or.inl rfl) (Or.inr rfl)) (pgs_cons (pg_name (i := 3) (show (["word", "gap", "told", "broken"] : List Str).Nodup by decide +kernel) rfl (Or.inl rfl) (Or.inr rfl)) pgs_nil)))))) (fun _ _ _ _ => (pts_one (PW.pt (pw_and (pt_tru (pv 2) (fun _ => rfl)) (pw_and1 (pt_not (pt_tru (pv 3) (fun _ => rfl)))))))) (fun _ _ _ _ => (pe_tup (pa_cons (pv 0) (pa_cons (pv 1) pa_nil))))))), ?_⟩
  rw [show L2.start ["words", "patterns"] [v, u] = [some (v), some (u)] from rfl]
  walk_at "go"
  refine ⟨v, u, ws, xs, rfl, hv, hu, hxs, hxl, hws, hwl, fun r zs H2 hr0 e2 hz2 s2 => ?_⟩
  have hzl : zs.length ≤ 100 * 100 := by
    have h1 := hz2.length
    rw [List.length_map] at h1
    have h2 := seenA_len (xs := xs) (m := 100) (ws := ws) fun y hy => (hws y hy).2
    have h3 : ws.length * 100 ≤ 100 * 100 := Nat.mul_le_mul_right _ hwl
    omega
  walk_at "go"
  intro c hc0
  refine comp_list (K := K) (xs := zs) (fun j acc σ H' => ∃ v0 v1 v2 v3, σ = [v0, v1, v2, v3] ∧ acc.length ≤ j ∧ H' c = some (.lst acc) ∧ L2.IsL H' acc ((gapsBy isMiss ((seenA xs ws).take j)).map gapD) ∧ Same H2 H')
    (fun j acc σ H' _ ⟨_, _, _, _, _, _, _, _, s3⟩ => SqL.of (s3 _ _ e2)) ⟨none, none, none, none, rfl, Nat.le_refl _, upd_same, (by simp [gapsBy, L2.IsL]), same_new hc0 _⟩ (fun j acc σ H' ⟨_, _, _, _, _, e, e3, _⟩ => ⟨e3, e⟩) (szn (by omega)) ?_ ?_
  · rintro j acc σ H3 hj ⟨v0, v1, v2, v3, rfl, hal, e3, hz3, s3⟩
    have hjl : j < (seenA xs ws).length := by
      have h2 := hz2.length
      rw [List.length_map] at h2; omega
    obtain ⟨x', d, hx1, hx2, hx3⟩ := IsL.get hz2 (i := j) (by rw [List.length_map]; exact hjl)
    rw [List.getElem?_map, List.getElem?_eq_getElem hjl] at hx2
    cases hx2
    have hgd : zs.getD j .non = x' := by rw [List.getD_eq_getElem?_getD, hx1]; rfl
    rw [hgd]
    obtain ⟨pa, rfl, hpa⟩ := isSeen hx3
    have htk : (seenA xs ws).take (j + 1) = (seenA xs ws).take j ++ [(seenA xs ws)[j]] := by rw [List.take_succ, List.getElem?_eq_getElem hjl]; rfl
    rw [htk, gapsBy_append, gapsBy_one]
    generalize (seenA xs ws)[j] = xj at hpa ⊢
    obtain ⟨xw, xg, xt, xb⟩ := xj
    have hpa3 : H3 pa = some (.tup [.str (S xw), .int xg, .bl xt, .bl xb]) := s3 _ _ hpa
    refine i_gtup hpa3 rfl (i_gcons (i_name (i_gcons (i_name (i_gcons (i_name (i_gcons (i_name (i_gnil ?_)))))))))
    walk_at "go"
    cases xt
    · walk_at "go"
      rw [if_neg (by simp [isMiss]), List.append_nil]
      exact ⟨_, _, _, _, rfl, by omega, e3, hz3, s3⟩
    · walk_at "go"
      cases xb
      · walk_at "go"
        rw [if_pos (show isMiss ⟨xw, xg, true, false⟩ = true from rfl)]
        intro p hp0
        have tc : c ≠ p := ne_of_none e3 hp0
        have e4 : (upd H3 p (.tup [.str (S xw), .int xg])) c = some (.lst acc) := by rw [upd_ne tc]; exact e3
        have k4 : Tk H3 (upd (upd H3 p (.tup [.str (S xw), .int xg])) c (.lst (acc ++ [.ref p]))) := (Tk.new hp0 _).trans (Tk.lst e4 _)
        refine ⟨e4, _, _, _, _, rfl, by rw [List.length_append]; show _ + 1 ≤ _; omega, upd_same, ?_, fun b o e => ?_⟩
        · rw [List.map_append]
          refine IsL.snoc (IsL.tk k4 (tOnly_gaps _) hz3) (isGap_mk (x := (xw, xg)) ?_)
          rw [upd_ne tc.symm]; exact upd_same
        · have hbc : b ≠ c := fun z => by rw [z, hc0] at e; cases e
          rw [upd_ne hbc]; exact (same_new hp0 _) _ _ (s3 _ _ e)
      · walk_at "go"
        rw [if_neg (by simp [isMiss]), List.append_nil]
        exact ⟨_, _, _, _, rfl, by omega, e3, hz3, s3⟩
  · rintro acc σ H3 ⟨v0, v1, v2, v3, rfl, hal, e3, hz3, s3⟩
    have h2 := hz2.length
    rw [List.length_map] at h2
    rw [h2, List.take_length] at hz3
    exact q c acc H3 (s2.free hc0) e3 hz3 (s2.trans s3)
theorem ok_wrong (T : Txt mg tk) (F : Fun K "wrong" "wrong" s_wrong f fd) (D_seen_gaps : Dn P w K mg base "seen_gaps" 4 ["words", "patterns"] spSeen) : FnOk P w K mg base CX0 5 f fd ["words", "patterns"] (spGaps isWrong) := by
  refine F.ok sc_wrong (fun vs H Q E h => ?_) (fun cdv A outer s H vs Q E hr h => ?_)
  · obtain ⟨v, u, ws, xs, rfl, _⟩ := h
    rfl
  obtain ⟨v, u, ws, xs, rfl, hv, hu, hxs, hxl, hws, hwl, q⟩ := h
  have nd := sc_wrong.nd
  refine ⟨_, (pss_one (ps_ret (pe_comp ["word", "gap", "told", "broken"] [none, none, none, none] rfl (by kernel_rfl) rfl (pi_any (K := K) (pe_callD D_seen_gaps (hr.mono (by first | decide | omega)) rfl (pa_cons (pv 0) (pa_cons (pv 1) pa_nil)))) (fun _ _ _ _ => (pg_tupK (K := K) (n := 4) rfl rfl (pgs_cons (pg_name (i := 0) (show (["word", "gap", "told", "broken"] : List Str).Nodup by decide +kernel) rfl (Or.inl rfl) (Or.inr rfl)) (pgs_cons (pg_name (i := 1) (show (["word", "gap", "told", "broken"] : List Str).Nodup by decide +kernel) rfl (Or.inl rfl) (Or.inr rfl)) (pgs_cons (pg_name (i := 2) (show (["word", "gap", "told", "broken"] : List Str).Nodup by decide +kernel) rfl (Or.inl rfl) (Or.inr rfl)) (pgs_cons (pg_name (i := 3) (show (["word", "gap", "told", "broken"] : List Str).Nodup by decide +kernel) rfl (Or.inl rfl) (Or.inr rfl)) pgs_nil)))))) (fun _ _ _ _ => (pts_one (PW.pt (pw_and (pt_tru (pv 3) (fun _ => rfl)) (pw_and1 (pt_not (pt_tru (pv 2) (fun _ => rfl)))))))) (fun _ _ _ _ => (pe_tup (pa_cons (pv 0) (pa_cons (pv 1) pa_nil))))))), ?_⟩
  rw [show L2.start ["words", "patterns"] [v, u] = [some (v), some (u)] from rfl]
  walk_at "go"
  refine ⟨v, u, ws, xs, rfl, hv, hu, hxs, hxl, hws, hwl, fun r zs H2 hr0 e2 hz2 s2 => ?_⟩
  have hzl : zs.length ≤ 100 * 100 := by
    have h1 := hz2.length
    rw [List.length_map] at h1
    have h2 := seenA_len (xs := xs) (m := 100) (ws := ws) fun y hy => (hws y hy).2
    have h3 : ws.length * 100 ≤ 100 * 100 := Nat.mul_le_mul_right _ hwl
    omega
  walk_at "go"
  intro c hc0
  refine comp_list (K := K) (xs := zs) (fun j acc σ H' => ∃ v0 v1 v2 v3, σ = [v0, v1, v2, v3] ∧ acc.length ≤ j ∧ H' c = some (.lst acc) ∧ L2.IsL H' acc ((gapsBy isWrong ((seenA xs ws).take j)).map gapD) ∧ Same H2 H')
    (fun j acc σ H' _ ⟨_, _, _, _, _, _, _, _, s3⟩ => SqL.of (s3 _ _ e2)) ⟨none, none, none, none, rfl, Nat.le_refl _, upd_same, (by simp [gapsBy, L2.IsL]), same_new hc0 _⟩ (fun j acc σ H' ⟨_, _, _, _, _, e, e3, _⟩ => ⟨e3, e⟩) (szn (by omega)) ?_ ?_
  · rintro j acc σ H3 hj ⟨v0, v1, v2, v3, rfl, hal, e3, hz3, s3⟩
    have hjl : j < (seenA xs ws).length := by
      have h2 := hz2.length
      rw [List.length_map] at h2; omega
    obtain ⟨x', d, hx1, hx2, hx3⟩ := IsL.get hz2 (i := j) (by rw [List.length_map]; exact hjl)
    rw [List.getElem?_map, List.getElem?_eq_getElem hjl] at hx2
    cases hx2
    have hgd : zs.getD j .non = x' := by rw [List.getD_eq_getElem?_getD, hx1]; rfl
    rw [hgd]
    obtain ⟨pa, rfl, hpa⟩ := isSeen hx3
    have htk : (seenA xs ws).take (j + 1) = (seenA xs ws).take j ++ [(seenA xs ws)[j]] := by rw [List.take_succ, List.getElem?_eq_getElem hjl]; rfl
    rw [htk, gapsBy_append, gapsBy_one]
    generalize (seenA xs ws)[j] = xj at hpa ⊢
    obtain ⟨xw, xg, xt, xb⟩ := xj
    have hpa3 : H3 pa = some (.tup [.str (S xw), .int xg, .bl xt, .bl xb]) := s3 _ _ hpa
    refine i_gtup hpa3 rfl (i_gcons (i_name (i_gcons (i_name (i_gcons (i_name (i_gcons (i_name (i_gnil ?_)))))))))
    walk_at "go"
    cases xb
    · walk_at "go"
      rw [if_neg (by simp [isWrong]), List.append_nil]
      exact ⟨_, _, _, _, rfl, by omega, e3, hz3, s3⟩
    · walk_at "go"
      cases xt
      · walk_at "go"
        rw [if_pos (show isWrong ⟨xw, xg, false, true⟩ = true from rfl)]
        intro p hp0
        have tc : c ≠ p := ne_of_none e3 hp0
        have e4 : (upd H3 p (.tup [.str (S xw), .int xg])) c = some (.lst acc) := by rw [upd_ne tc]; exact e3
        have k4 : Tk H3 (upd (upd H3 p (.tup [.str (S xw), .int xg])) c (.lst (acc ++ [.ref p]))) := (Tk.new hp0 _).trans (Tk.lst e4 _)
        refine ⟨e4, _, _, _, _, rfl, by rw [List.length_append]; show _ + 1 ≤ _; omega, upd_same, ?_, fun b o e => ?_⟩
        · rw [List.map_append]
          refine IsL.snoc (IsL.tk k4 (tOnly_gaps _) hz3) (isGap_mk (x := (xw, xg)) ?_)
          rw [upd_ne tc.symm]; exact upd_same
        · have hbc : b ≠ c := fun z => by rw [z, hc0] at e; cases e
          rw [upd_ne hbc]; exact (same_new hp0 _) _ _ (s3 _ _ e)
      · walk_at "go"
        rw [if_neg (by simp [isWrong]), List.append_nil]
        exact ⟨_, _, _, _, rfl, by omega, e3, hz3, s3⟩
  · rintro acc σ H3 ⟨v0, v1, v2, v3, rfl, hal, e3, hz3, s3⟩
    have h2 := hz2.length
    rw [List.length_map] at h2
    rw [h2, List.take_length] at hz3
    exact q c acc H3 (s2.free hc0) e3 hz3 (s2.trans s3)
end
theorem GP_vals {x : Pat} (h : GP x) : 1 ≤ x.1.length ∧ x.1.length ≤ 1000 ∧ x.2.length ≤ x.1.length + 1 := ⟨h.ne, by have := h.le; omega, by rw [h.len]; exact Nat.le_refl _⟩
abbrev s_law_is_list : Stmt := top 15
theorem sc_law_is_list : FnScope ["_law_found", "_law_due"] ["_law_found", "_law_due"] (defScope s_law_is_list) := ⟨rfl, rfl, rfl, by decide +kernel, rfl, by decide +kernel, by decide +kernel⟩
abbrev s_law : Stmt := top 16
theorem sc_law : FnScope ["_law_script", "_law_letters_here", "_law_plan", "_law_words_here", "_law_patterns", "_law_due", "_law_word", "_law_gaps", "_law_found", "_law_gap", "_law_handed", "_law_turn"] ["_law_script"] (defScope s_law) := ⟨rfl, rfl, rfl, by decide +kernel, rfl, by decide +kernel, by decide +kernel⟩
theorem i_zip0L {R : It → Hp → Prop} {ta tb : TE} {σ : St} {H : Hp} (h : ta σ H fun x H1 => tb σ H1 fun y H2 => zpItL R x y H2) : iZipL ta tb σ H R := h
theorem isGap {H : Hp} {v : V} {x : List Nat × Int} (h : Is H v (gapD x)) : ∃ a, v = .ref a ∧ H a = some (.tup [.str (S x.1), .int x.2]) := by
  simp only [Is, gapD] at h
  obtain ⟨a, ys, rfl, ha, hy⟩ := h
  match ys, hy with
  | [y1, y2], hy =>
    simp only [L2.IsL, Is] at hy
    obtain ⟨h1, h2, _⟩ := hy
    subst h1 h2
    exact ⟨a, rfl, ha⟩
  | [], hy => simp only [L2.IsL] at hy
  | [_], hy => simp only [L2.IsL] at hy; exact hy.2.elim
  | _ :: _ :: _ :: _, hy => simp only [L2.IsL] at hy; exact hy.2.2.elim
theorem Lay.gaps {gs : List (List Nat × Int)} (h : ∀ x ∈ gs, ∀ c ∈ x.1, c < 128) : Lay 2 (.lst (gs.map gapD)) := Lay.lst fun d hd => by
  obtain ⟨x, hx, rfl⟩ := List.mem_map.mp hd
  refine Lay.tup fun e he => ?_
  rcases List.mem_cons.mp he with h1 | h1
  · rw [h1]; exact Lay.str (h x hx)
  · have : e = .int x.2 := by simpa using h1
    rw [this]; exact Lay.int
theorem gapsBy_cs {p : Seen → Bool} {xs ws : List Pat} (h : ∀ x ∈ ws, ∀ c ∈ x.1, c < 128) : ∀ y ∈ gapsBy p (seenA xs ws), ∀ c ∈ y.1, c < 128 := fun y hy => by
  obtain ⟨s, hs, rfl⟩ := List.mem_map.mp hy
  obtain ⟨x, hx, hs2⟩ := List.mem_flatMap.mp (List.mem_filter.mp hs).1
  obtain ⟨j, _, rfl⟩ := List.mem_map.mp hs2
  exact h x hx
def spIsList : Sp := fun vs H Q _ => ∃ (a b : Addr) (zs us : List V) (gs : List (List Nat × Int)), vs = [.ref a, .ref b] ∧ H a = some (.lst zs) ∧ H b = some (.lst us) ∧ L2.IsL H zs (gs.map gapD) ∧ L2.IsL H us (gs.map gapD) ∧ (∀ x ∈ gs, ∀ c ∈ x.1, c < 128) ∧ gs.length ≤ 10000 ∧
  ∀ H', Same H H' → Q (.bl true) H'
def spLaw (K : PySem.W.Frag) : Sp := fun vs H Q _ => ∃ (a : Addr) (ns : List Int), vs = [.ref a] ∧ SqL K H a (ns.map V.int) ∧ ns.length ≤ 63 ∧ ∀ H', Q (.bl true) H'
section
variable {P : Program} {w : World} {K : PySem.W.Frag} {mg : Str → Option Value} {base : Heap} {f : Addr} {fd : FuncData} {tk : Nat → Tok}
theorem ok_law_is_list (T : Txt mg tk) (F : Fun K "_law_is_list" "_law_is_list" s_law_is_list f fd) : FnOk P w K mg base CX0 1 f fd ["_law_found", "_law_due"] spIsList := by
  refine F.ok sc_law_is_list (fun vs H Q E h => ?_) (fun cdv A outer s H vs Q E hr h => ?_)
  · obtain ⟨a, b, zs, us, gs, rfl, _⟩ := h
    rfl
  obtain ⟨a, b, zs, us, gs, rfl, ha, hb, hz, hu, hcs, hgl, q⟩ := h
  have hzl := hz.length
  rw [List.length_map] at hzl
  have nd := sc_law_is_list.nd
  refine ⟨_, (pss_cons (ps_if (PW.pt (pw_or (pt_not (pt_tru (pe_callB c_isinstance rfl T.z_isinstance (by decide +kernel) (pa_cons (pv 0) (pa_cons (pe_bltn (v := .ty "list") rfl T.z_list (by decide +kernel) rfl) pa_nil))) (fun _ => rfl))) (pw_or1 (pt_cmpR (o_ne hr.units) (pv 0) (pv 1) (nomark _)))))
     (pss_one (ps_ret pe_bl))
     pss_nil)
    (pss_one (ps_ret (pe_callB (c_all rfl) rfl T.z_all (by decide +kernel) (pa_cons (pe_comp ["_law_one"] [none] rfl (by kernel_rfl) rfl (pi_any (K := K) (pv 0)) (fun _ _ _ _ => (pg_name (i := 0) (show (["_law_one"] : List Str).Nodup by decide +kernel) rfl (Or.inl rfl) (Or.inr rfl))) (fun _ _ _ _ => pts_nil) (fun _ _ _ _ => (pe_and (pe_callB c_isinstance rfl T.z_isinstance (by decide +kernel) (pa_cons (pv 0) (pa_cons (pe_bltn (v := .ty "tuple") rfl T.z_tuple (by decide +kernel) rfl) pa_nil))) (pe_one (pe_not (pe_callB c_isinstance rfl T.z_isinstance (by decide +kernel) (pa_cons (pe_ix (ix_any (K := K)) (pv 0) pe_int (fun _ _ => rfl)) (pa_cons (pe_bltn (v := .ty "bool") rfl T.z_bool (by decide +kernel) rfl) pa_nil)))))))) pa_nil))))), ?_⟩
  rw [show L2.start ["_law_found", "_law_due"] [.ref a, .ref b] = [some (.ref a), some (.ref b)] from rfl]
  walk_at "go"
  refine i_neD (d := .lst (gs.map gapD)) (by simp only [Is]; exact ⟨a, zs, rfl, ha, hz⟩) (by simp only [Is]; exact ⟨b, us, rfl, hb, hu⟩) ((Lay.gaps hcs).ok (by decide)) ?_
  walk_at "go"
  intro r hr0
  refine comp_list (K := K) (xs := zs) (fun j acc σ H' => ∃ v0, σ = [v0] ∧ acc = (List.replicate j true).map V.bl ∧ H' r = some (.lst acc) ∧ Same H H')
    (fun j acc σ H' _ ⟨_, _, _, _, s3⟩ => SqL.of (s3 _ _ ha)) ⟨none, rfl, rfl, upd_same, same_new hr0 _⟩ (fun j acc σ H' ⟨_, _, e, e3, _⟩ => ⟨e3, by rw [e]; simp⟩) (szn (by omega)) ?_ ?_
  · rintro j acc σ H3 hj ⟨v0, rfl, rfl, e3, s3⟩
    have hjl : j < gs.length := by omega
    obtain ⟨x', d, hx1, hx2, hx3⟩ := IsL.get hz (i := j) (by rw [List.length_map]; exact hjl)
    rw [List.getElem?_map, List.getElem?_eq_getElem hjl] at hx2
    cases hx2
    have hgd : zs.getD j .non = x' := by rw [List.getD_eq_getElem?_getD, hx1]; rfl
    rw [hgd]
    obtain ⟨pa, rfl, hpa⟩ := isGap hx3
    have hpa3 := s3 _ _ hpa
    walk_at "go"
    refine ⟨e3, _, rfl, ?_, upd_same, fun b' o e => ?_⟩
    · rw [List.replicate_succ', List.map_append]; rfl
    · have hbr : b' ≠ r := fun z => by rw [z, hr0] at e; cases e
      rw [upd_ne hbr]; exact s3 b' o e
  · rintro acc σ H3 ⟨v0, rfl, rfl, e3, s3⟩
    walk_at "go"
    refine i_allL (lstR_of e3) ?_
    walk_at "go"
    simp only [List.all_replicate]
    have e5 : ∀ k : Nat, (if k = 0 then true else id true) = true := fun k => by split <;> rfl
    rw [e5]
    exact q H3 s3
theorem ok_law (T : Txt mg tk) (F : Fun K "law" "law" s_law f fd) (D_law_row : Dn P w K mg base "_law_row" 1 ["_law_script", "_law_at", "_law_bounds"] (spRow K)) (D_law_letters : Dn P w K mg base "_law_letters" 1 ["_law_numbers"] spLets) (D_law_pattern : Dn P w K mg base "_law_pattern" 2 ["_law_script", "_law_at", "_law_letters_here"] (spPat K)) (D_law_values : Dn P w K mg base "_law_values" 1 ["_law_patterns", "_law_word"] spValues) (D_law_words : Dn P w K mg base "_law_words" 2 ["_law_script", "_law_at", "_law_letters_here", "_law_many", "_law_longest"] (spWords K)) (D_law_is_list : Dn P w K mg base "_law_is_list" 1 ["_law_found", "_law_due"] spIsList) (D_missed : Dn P w K mg base "missed" 5 ["words", "patterns"] (spGaps isMiss)) (D_wrong : Dn P w K mg base "wrong" 5 ["words", "patterns"] (spGaps isWrong)) : FnOk P w K mg base CX0 8 f fd ["_law_script"] (spLaw K) := by
  refine F.ok sc_law (fun vs H Q E h => ?_) (fun cdv A outer s H vs Q E hr h => ?_)
  · obtain ⟨a, ns, rfl, _⟩ := h
    rfl
  obtain ⟨a, ns, rfl, hS, hlen, q⟩ := h
  have nd := sc_law.nd
  refine ⟨_, (pss_cons (ps_set (i := 1) nd rfl (Or.inr rfl) (pe_slice (sl_any (K := K)) (pe_callD D_law_letters (hr.mono (by first | decide | omega)) rfl (pa_cons (pe_callD D_law_row (hr.mono (by first | decide | omega)) rfl (pa_cons (pv 0) (pa_cons pe_int (pa_cons (pe_lst (pa_cons pe_int (pa_cons pe_int (pa_cons pe_int pa_nil)))) pa_nil)))) pa_nil)) po_none (po_some (pe_un o_neg pe_int))))
    (pss_cons (ps_set (i := 2) nd rfl (Or.inl rfl) (pe_callD D_law_row (hr.mono (by first | decide | omega)) rfl (pa_cons (pv 0) (pa_cons pe_int (pa_cons (pe_lst (pa_cons pe_int (pa_cons pe_int pa_nil))) pa_nil)))))
    (pss_cons (ps_set (i := 3) nd rfl (Or.inl rfl) (pe_callD D_law_words (hr.mono (by first | decide | omega)) rfl (pa_cons (pv 0) (pa_cons pe_int (pa_cons (pv 1) (pa_cons (pe_ix (ix_any (K := K)) (pv 2) pe_int (fun _ _ => rfl)) (pa_cons pe_int pa_nil)))))))
    (pss_cons (ps_setC (i := 4) ["_law_script", "_law_letters_here", "_law_k"] [some 0, some 1, none] rfl (by kernel_rfl) rfl nd rfl rfl (pi_range1 rfl T.z_range (pa_cons (pe_ix (ix_any (K := K)) (pv 2) pe_int (fun _ _ => rfl)) pa_nil)) (fun _ _ _ _ => (pg_name (i := 2) (show (["_law_script", "_law_letters_here", "_law_k"] : List Str).Nodup by decide +kernel) rfl (Or.inl rfl) (Or.inr rfl))) (fun _ _ _ _ => pts_nil) (fun _ _ _ _ => (pe_callD D_law_pattern (hr.mono (by first | decide | omega)) rfl (pa_cons (pv 0) (pa_cons (pe_op o_add pe_int (pv 2)) (pa_cons (pv 1) pa_nil))))))
    (pss_cons (ps_set (i := 5) nd rfl (Or.inl rfl) (pe_lst (pa_cons (pe_lst pa_nil) (pa_cons (pe_lst pa_nil) pa_nil))))
    (pss_cons (ps_for PassesOwn.never rfl (pi_any (K := K) (pv 3)) (pg_tup rfl (pgs_cons (pg_name (i := 6) nd rfl (Or.inl rfl)) (pgs_cons (pg_name (i := 7) nd rfl (Or.inl rfl)) pgs_nil)))
     (pss_cons (ps_set (i := 8) nd rfl (Or.inl rfl) (pe_callD D_law_values (hr.mono (by first | decide | omega)) rfl (pa_cons (pv 4) (pa_cons (pv 6) pa_nil))))
    (pss_one (ps_for PassesOwn.never rfl (pi_range2 rfl T.z_range (pa_cons pe_int (pa_cons (pe_callB (c_len (K := K)) rfl T.z_len (by decide +kernel) (pa_cons (pv 6) pa_nil)) pa_nil))) (pg_name (i := 9) nd rfl (Or.inl rfl))
     (pss_cons (ps_if (PW.pt (pw_and (pt_cmpR o_in (pv 9) (pv 7) (by with_unfolding_all rfl)) (pw_and1 (pt_cmpR (o_eq hr.units) (pe_op o_mod (pe_ix (ix_any (K := K)) (pv 8) (pe_op o_sub (pv 9) pe_int) (fun _ _ => rfl)) pe_int) pe_int (nomark _)))))
     (pss_one (ps_expr (pe_bmK (K := K) PySem.F.plainAttrs_list PySem.F.slot_list_append PySem.F.type_list_append m_append1 (pe_ix (ix_any (K := K)) (pv 5) pe_int (fun _ _ => rfl)) (pa_cons (pe_tup (pa_cons (pv 6) (pa_cons (pv 9) pa_nil))) pa_nil))))
     pss_nil)
    (pss_one (ps_if (PW.pt (pw_and (pt_cmpR o_notin (pv 9) (pv 7) (by with_unfolding_all rfl)) (pw_and1 (pt_cmpR (o_eq hr.units) (pe_op o_mod (pe_ix (ix_any (K := K)) (pv 8) (pe_op o_sub (pv 9) pe_int) (fun _ _ => rfl)) pe_int) pe_int (nomark _)))))
     (pss_one (ps_expr (pe_bmK (K := K) PySem.F.plainAttrs_list PySem.F.slot_list_append PySem.F.type_list_append m_append1 (pe_ix (ix_any (K := K)) (pv 5) pe_int (fun _ _ => rfl)) (pa_cons (pe_tup (pa_cons (pv 6) (pa_cons (pv 9) pa_nil))) pa_nil))))
     pss_nil)))))))
    (pss_cons (ps_set (i := 10) nd rfl (Or.inl rfl) (pe_lst (pa_cons (pe_callTy c_list rfl T.z_list (by decide +kernel) (pa_cons (pv 3) pa_nil)) (pa_cons (pe_callTy c_list rfl T.z_list (by decide +kernel) (pa_cons (pv 4) pa_nil)) pa_nil))))
    (pss_cons (ps_for PassesOwn.never rfl (pi_range1 rfl T.z_range (pa_cons pe_int pa_nil)) (pg_name (i := 11) nd rfl (Or.inl rfl))
     (pss_cons (ps_set (i := 8) nd rfl (Or.inl rfl) (pe_lst (pa_cons (pe_callD D_missed (hr.mono (by first | decide | omega)) rfl (pa_cons (pe_ix (ix_any (K := K)) (pv 10) pe_int (fun _ _ => rfl)) (pa_cons (pe_ix (ix_any (K := K)) (pv 10) pe_int (fun _ _ => rfl)) pa_nil))) (pa_cons (pe_callD D_wrong (hr.mono (by first | decide | omega)) rfl (pa_cons (pe_ix (ix_any (K := K)) (pv 10) pe_int (fun _ _ => rfl)) (pa_cons (pe_ix (ix_any (K := K)) (pv 10) pe_int (fun _ _ => rfl)) pa_nil))) pa_nil))))
    (pss_cons (ps_if (PW.pt (pw_or (pt_cmpR (o_ne hr.units) (pv 10) (pe_lst (pa_cons (pv 3) (pa_cons (pv 4) pa_nil))) (nomark _)) (pw_or1 (pt_not (pt_tru (pe_callB (c_all rfl) rfl T.z_all (by decide +kernel) (pa_cons (pe_comp ["_law_one", "_law_two"] [none, none] rfl (by kernel_rfl) rfl (pi_zipL rfl T.z_zip (pv 8) (pv 5)) (fun _ _ _ _ => (pg_tupK (K := K) (n := 2) rfl rfl (pgs_cons (pg_name (i := 0) (show (["_law_one", "_law_two"] : List Str).Nodup by decide +kernel) rfl (Or.inl rfl) (Or.inr rfl)) (pgs_cons (pg_name (i := 1) (show (["_law_one", "_law_two"] : List Str).Nodup by decide +kernel) rfl (Or.inl rfl) (Or.inr rfl)) pgs_nil)))) (fun _ _ _ _ => pts_nil) (fun _ _ _ _ => (pe_callD D_law_is_list (hr.mono (by first | decide | omega)) rfl (pa_cons (pv 0) (pa_cons (pv 1) pa_nil))))) pa_nil)) (fun _ => rfl))))))
     (pss_one (ps_ret pe_bl))
     pss_nil)
    (pss_cons (ps_expr (pe_bm0K (K := K) PySem.F.plainAttrs_list PySem.F.slot_list_clear PySem.F.type_list_clear m_clear (pe_ix (ix_any (K := K)) (pv 8) pe_int (fun _ _ => rfl))))
    (pss_one (ps_expr (pe_bm0K (K := K) PySem.F.plainAttrs_list PySem.F.slot_list_clear PySem.F.type_list_clear m_clear (pe_ix (ix_any (K := K)) (pv 8) pe_int (fun _ _ => rfl)))))))))
    (pss_one (ps_ret pe_bl)))))))))), ?_⟩
  rw [show L2.start ["_law_script", "_law_letters_here", "_law_plan", "_law_words_here", "_law_patterns", "_law_due", "_law_word", "_law_gaps", "_law_found", "_law_gap", "_law_handed", "_law_turn"] [.ref a] = [some (.ref a), none, none, none, none, none, none, none, none, none, none, none] from rfl]
  walk_at "go"
  intro p1 h1
  have s1 := same_new h1 (.lst [.int 26, .int 6, .int 3])
  walk_at "go"
  refine ⟨a, ns, 0, p1, [26, 6, 3], rfl, s1.seq hS, by decide, upd_same, by decide, by decide, fun r1 ds H2 hr1 e2 hdl hds s2 => ?_⟩
  have s02 := s1.trans s2
  obtain ⟨x, y, z, rfl⟩ : ∃ x y z, ds = [x, y, z] := by
    match ds, hdl with
    | [x, y, z], _ => exact ⟨x, y, z, rfl⟩
  obtain ⟨hx0, hx1⟩ := hds 0 x 26 rfl rfl
  obtain ⟨hy0, hy1⟩ := hds 1 y 6 rfl rfl
  obtain ⟨hz0, hz1⟩ := hds 2 z 3 rfl rfl
  walk_at "go"
  refine ⟨r1, x, y, z, rfl, e2, hx0, hx1, hy0, hy1, hz0, hz1, fun r2 l H3 hr2 e3 hlw hl3 hl5 s3 => ?_⟩
  have s03 := s02.trans s3
  walk_at "go"
  refine i_slL (SqL.of e3) fun lt hlt => ?_
  rw [cutV_eq, lets, cutA_map]
  have hcl := cut_length l none (some (-1))
  have hsx : sx l.length l.length (some (-1)) = l.length - 1 := by simp only [sx]; rw [if_pos (by decide)]; omega
  rw [hsx] at hcl
  have hcl : (cutA l none (some (-1))).length = l.length - 1 := hcl
  have hlo := Low_cut hlw none (some (-1))
  generalize cutA l none (some (-1)) = l' at hcl hlo ⊢
  have e4 : (upd H3 lt (.lst (l'.map fun c => V.str (S [c])))) lt = some (.lst (lets l')) := upd_same
  have s04 := s03.trans (same_new hlt (.lst (l'.map fun c => V.str (S [c]))))
  generalize upd H3 lt (.lst (l'.map fun c => V.str (S [c]))) = H4 at e4 s04 ⊢
  clear e3 s3 s03 e2 s2 s02 hds hr2 hr1 hlt s1 h1
  walk_at "go"
  intro p5 h5
  have s5 := same_new h5 (.lst [.int 8, .int 6])
  walk_at "go"
  refine ⟨a, ns, 1, p5, [8, 6], rfl, (s04.trans s5).seq hS, by decide, upd_same, by decide, by decide, fun r5 ds H6 hr5 e6 hdl hds s6 => ?_⟩
  have s46 := s5.trans s6
  have s06 := s04.trans s46
  obtain ⟨m, n, rfl⟩ : ∃ x y, ds = [x, y] := by
    match ds, hdl with
    | [x, y], _ => exact ⟨x, y, rfl⟩
  obtain ⟨hm0, hm1⟩ := hds 0 m 8 rfl rfl
  obtain ⟨hn0, hn1⟩ := hds 1 n 6 rfl rfl
  obtain ⟨m', rfl⟩ : ∃ k : Nat, m = k := ⟨m.toNat, by omega⟩
  have e46 := s46 _ _ e4
  have e6 : H6 r5 = some (.lst [.int (m' : Int), .int n]) := e6
  walk_at "go"
  refine ⟨a, ns, 2, lt, l', m', 7, rfl, s06.seq hS, by decide, e46, hlo, by omega, by omega, by omega, by decide, by decide, fun wr ys ws H7 hwr e7 hys hws hwl s7 => ?_⟩
  have s07 := s06.trans s7
  have e67 := s7 _ _ e6
  have e47 := s7 _ _ e46
  have hyl := hys.length
  rw [List.length_map] at hyl
  walk_at "go"
  intro pr hpr
  refine comp_range (fun i acc σ H' => ∃ (v : Option V) (xs : List Pat), σ = [some (.ref a), some (.ref lt), v] ∧ acc.length = i ∧ H' pr = some (.lst acc) ∧ L2.IsL H' acc (xs.map patD) ∧ (∀ x ∈ xs, GP x) ∧ Same H7 H')
    ⟨none, [], rfl, rfl, upd_same, (by simp [L2.IsL]), (fun x hx => nomatch hx), same_new hpr _⟩ (fun i acc σ H' ⟨_, xs, _, e, e1, _⟩ => ⟨e1, by omega⟩) (szn (by omega)) ?_ ?_
  · rintro i acc σ H' hi ⟨v, xs, rfl, hal, e8, hxs, hgp, s8⟩
    walk_at "go"
    refine ⟨a, ns, 10 + i, lt, l', by simp only [Int.natCast_add, Int.zero_add]; rfl, (s07.trans s8).seq hS, by omega, s8 _ _ e47, hlo, by omega, by omega, fun v x H9 hv hx hxl s9 => ?_⟩
    have e9 := s9 _ _ e8
    have k4 : Tk H9 (upd H9 pr (.lst (acc ++ [v]))) := Tk.lst e9 _
    refine ⟨e9, _, xs ++ [x], rfl, by simp [hal], upd_same, ?_, fun y hy => ?_, fun b' o e => ?_⟩
    · rw [List.map_append]
      exact IsL.snoc (IsL.tk k4 (tOnly_pats _) (IsL.same s9 hxs)) (Is.tk k4 (tOnly_pat _) hv)
    · rcases List.mem_append.mp hy with h | h
      · exact hgp y h
      · have : y = x := by simpa using h
        rw [this]; exact hx
    · have hbr : b' ≠ pr := fun z => by rw [z, hpr] at e; cases e
      rw [upd_ne hbr]; exact s9 b' o (s8 b' o e)
  rintro acc σ H8 ⟨v, xs, rfl, hal, e8, hxs, hgp, s8⟩
  have s08 := s07.trans s8
  have e78 := s8 _ _ e7
  have hys8 := IsL.same s8 hys
  have hxl : xs.length ≤ 10 := by
    have := hxs.length
    rw [List.length_map] at this; omega
  have hgv : ∀ x ∈ xs, 1 ≤ x.1.length ∧ x.1.length ≤ 1000 ∧ x.2.length ≤ x.1.length + 1 := fun x hx => GP_vals (hgp x hx)
  have isX : ∀ {H' : Hp} {b : Addr}, Same H8 H' → H' b = some (.lst acc) → Is H' (.ref b) (patsD xs) := fun {H' b} s e => by
    simp only [Is, patsD]
    exact ⟨b, acc, rfl, e, IsL.same s hxs⟩
  have isW : ∀ {H' : Hp} {b : Addr}, Same H8 H' → H' b = some (.lst ys) → Is H' (.ref b) (patsD ws) := fun {H' b} s e => by
    simp only [Is, patsD]
    exact ⟨b, ys, rfl, e, IsL.same s hys8⟩
  clear e67 e47 e46 s7 s46 s6 s5 s8 hpr e7 hys hwr hr5 hds e4
  walk_at "go"
  intro d1 hd1
  walk_at "go"
  intro d2 hd2
  walk_at "go"
  intro dd hdd
  have s9 := ((same_new hd1 (.lst [])).trans (same_new hd2 (.lst []))).trans (same_new hdd (.lst [.ref d1, .ref d2]))
  have n12 : d1 ≠ d2 := ne_of_none (upd_same (H := H8) (a := d1) (o := .lst [])) hd2
  have n1d : d1 ≠ dd := ne_of_none ((same_new hd2 (.lst [])) _ _ (upd_same (H := H8) (a := d1) (o := .lst []))) hdd
  have n2d : d2 ≠ dd := ne_of_none (upd_same (H := upd H8 d1 (.lst [])) (a := d2) (o := .lst [])) hdd
  have ed1 : (upd (upd (upd H8 d1 (.lst [])) d2 (.lst [])) dd (.lst [.ref d1, .ref d2])) d1 = some (.lst []) := by rw [upd_ne n1d, upd_ne n12]; exact upd_same
  have ed2 : (upd (upd (upd H8 d1 (.lst [])) d2 (.lst [])) dd (.lst [.ref d1, .ref d2])) d2 = some (.lst []) := by rw [upd_ne n2d]; exact upd_same
  have edd := upd_same (H := upd (upd H8 d1 (.lst [])) d2 (.lst [])) (a := dd) (o := .lst [.ref d1, .ref d2])
  have f2 : H8 d2 = none := (same_new hd1 (.lst [])).free hd2
  have fd' : H8 dd = none := ((same_new hd1 (.lst [])).trans (same_new hd2 (.lst []))).free hdd
  generalize upd (upd (upd H8 d1 (.lst [])) d2 (.lst [])) dd (.lst [.ref d1, .ref d2]) = H9 at s9 ed1 ed2 edd ⊢
  have hys9 := IsL.same s9 hys8
  have e79 := s9 _ _ e78
  have rp : wr ≠ d1 ∧ wr ≠ d2 ∧ wr ≠ dd := ⟨ne_of_none e78 hd1, ne_of_none e78 f2, ne_of_none e78 fd'⟩
  walk_at "go"
  refine for_list (K := K) (xs := ys) (fun i σ H' => ∃ (v6 v7 v8 v9 : Option V) (z1 z2 : List V), σ = [some (.ref a), some (.ref lt), some (.ref r5), some (.ref wr), some (.ref pr), some (.ref dd), v6, v7, v8, v9, none, none] ∧ H' d1 = some (.lst z1) ∧ H' d2 = some (.lst z2) ∧ H' dd = some (.lst [.ref d1, .ref d2]) ∧ L2.IsL H' z1 ((gapsBy isMiss (seenA xs (ws.take i))).map gapD) ∧ L2.IsL H' z2 ((gapsBy isWrong (seenA xs (ws.take i))).map gapD) ∧ Same H8 H')
    ⟨none, none, none, none, [], [], rfl, ed1, ed2, edd, (by simp [seenA, gapsBy, L2.IsL]), (by simp [seenA, gapsBy, L2.IsL]), s9⟩ (fun i σ H' _ ⟨_, _, _, _, _, _, _, _, _, _, _, _, s⟩ => SqL.of (s _ _ e78)) ?_ ?_
  · rintro i x0 σ H10 hx0 ⟨v6, v7, v8, v9, z1, z2, rfl, q1, q2, q3, i1, i2, s10⟩
    have hil : i < ws.length := by
      have h1 := (List.getElem?_eq_some_iff.mp hx0).1
      omega
    obtain ⟨x', d, hx1, hx2, hx3⟩ := IsL.get hys8 (i := i) (by rw [List.length_map]; exact hil)
    rw [hx0] at hx1
    cases hx1
    rw [List.getElem?_map, List.getElem?_eq_getElem hil] at hx2
    cases hx2
    obtain ⟨pa, nt, rfl, hpa, hnt⟩ := isPat hx3
    obtain ⟨hg0, hg1, hg2, hg3⟩ := hws _ (List.getElem_mem hil)
    have hb : (seenA xs (ws.take i)).length ≤ 8 * 7 := by
      have h2 := seenA_len (xs := xs) (m := 7) (ws := ws.take i) fun y hy => (hws y (List.mem_of_mem_take hy)).2.2.1
      have h3 : (ws.take i).length * 7 ≤ 8 * 7 := Nat.mul_le_mul_right _ (by rw [List.length_take]; omega)
      omega
    rw [seenA_take hil]
    generalize ws[i] = xi at hpa hnt hg0 hg1 hg2 hg3 ⊢
    obtain ⟨w', g⟩ := xi
    have hg1 : 1 ≤ w'.length := hg1
    have hg2 : w'.length ≤ 7 := hg2
    have hpa1 : H10 pa = some (.tup [.str (S w'), .ref nt]) := s10 _ _ hpa
    have hnt : H8 nt = some (.tup (g.map V.int)) := hnt
    have hvl := vals_length xs w'
    refine i_gtup hpa1 rfl (i_gcons (i_name (i_gcons (i_name (i_gnil ?_)))))
    walk_at "go"
    refine ⟨.ref pr, xs, w', rfl, isX s10 (s10 _ _ e8), hgv, by omega, hg1, by omega, fun f1 H11 hf1 e11 s11 => ?_⟩
    have s811 := s10.trans s11
    have hf8 : H8 f1 = none := s10.free hf1
    have nf1 : f1 ≠ d1 := fun z => by rw [z, q1] at hf1; cases hf1
    have nf2 : f1 ≠ d2 := fun z => by rw [z, q2] at hf1; cases hf1
    walk_at "go"
    refine for_range (fun j σ H' => ∃ (v9 : Option V) (z1 z2 : List V), σ = [some (.ref a), some (.ref lt), some (.ref r5), some (.ref wr), some (.ref pr), some (.ref dd), some (.str (S w')), some (.ref nt), some (.ref f1), v9, none, none] ∧ H' d1 = some (.lst z1) ∧ H' d2 = some (.lst z2) ∧ H' dd = some (.lst [.ref d1, .ref d2]) ∧ L2.IsL H' z1 ((gapsBy isMiss (seenA xs (ws.take i) ++ (List.range j).map (seenW xs (w', g)))).map gapD) ∧ L2.IsL H' z2 ((gapsBy isWrong (seenA xs (ws.take i) ++ (List.range j).map (seenW xs (w', g)))).map gapD) ∧ H' f1 = some (.lst ((vals xs w').map V.int)) ∧ Same H8 H')
      ⟨_, z1, z2, rfl, s11 _ _ q1, s11 _ _ q2, s11 _ _ q3, by simpa using IsL.same s11 i1, by simpa using IsL.same s11 i2, e11, s811⟩ ?_ ?_
    · rintro j σ H12 hj ⟨v9, z1, z2, rfl, q1, q2, q3, i1, i2, e12, s12⟩
      have hjl : j < (vals xs w').length := by omega
      have hnt12 := s12 _ _ hnt
      have hst : seenA xs (ws.take i) ++ (List.range (j + 1)).map (seenW xs (w', g)) = (seenA xs (ws.take i) ++ (List.range j).map (seenW xs (w', g))) ++ [seenW xs (w', g) j] := by
        rw [List.range_succ, List.map_append, List.append_assoc]; rfl
      have hlz1 : z1.length < 1000000 := by
        have h1 := i1.length
        rw [List.length_map] at h1
        have h2 := gapsBy_len isMiss (seenA xs (ws.take i) ++ (List.range j).map (seenW xs (w', g)))
        rw [List.length_append, List.length_map, List.length_range] at h2
        omega
      have hlz2 : z2.length < 1000000 := by
        have h1 := i2.length
        rw [List.length_map] at h1
        have h2 := gapsBy_len isWrong (seenA xs (ws.take i) ++ (List.range j).map (seenW xs (w', g)))
        rw [List.length_append, List.length_map, List.length_range] at h2
        omega
      rw [hst]
      generalize seenA xs (ws.take i) ++ (List.range j).map (seenW xs (w', g)) = L at i1 i2 ⊢
      rw [gapsBy_append, gapsBy_append, gapsBy_one, gapsBy_one]
      have hod : oddAt (vals xs w') j = decide ((vals xs w')[j] % 2 = 1) := by unfold oddAt; simp [List.getD_eq_getElem?_getD, hjl]
      have hvj : atI ((vals xs w').map V.int) (1 + (j : Int) - 1) = some (.int (vals xs w')[j]) := atI_of (by omega) (by rw [show (1 + (j : Int) - 1).toNat = j by omega, List.getElem?_map, List.getElem?_eq_getElem hjl]; rfl)
      have hgt : (seenW xs (w', g) j) = ⟨w', (j : Int) + 1, decide ((j : Int) + 1 ∈ g), oddAt (vals xs w') j⟩ := rfl
      rw [hgt, hod]
      generalize (vals xs w')[j] = vj at hvj ⊢
      have hb1 : inV (.int (1 + (j : Int))) (g.map V.int) = decide ((j : Int) + 1 ∈ g) := by rw [inV_ints, Int.add_comm]
      walk_at "go"
      refine i_inR (seqR_tup hnt12) ⟨rfl, flat_ints _⟩ ?_
      rw [hb1]
      by_cases hg : (j : Int) + 1 ∈ g
      · rw [decide_eq_true hg]
        walk_at "go"
        by_cases ho : vj % 2 = 1
        · refine iteDF (fun z => by injection z with z; omega) ?_
          walk_at "go"
          refine i_inR (seqR_tup hnt12) ⟨rfl, flat_ints _⟩ ?_
          rw [hb1, decide_eq_true hg]
          walk_at "go"
          rw [decide_eq_true ho, if_neg (by simp [isMiss]), if_neg (by simp [isWrong]), List.append_nil, List.append_nil]
          exact ⟨_, z1, z2, rfl, q1, q2, q3, i1, i2, e12, s12⟩
        · refine iteDT (by congr 1; omega) ?_
          walk_at "go"
          intro tp htp
          have st := same_new htp (.tup [.str (S w'), .int (1 + (j : Int))])
          have q1t := st _ _ q1
          have q3t := st _ _ q3
          have k4 : Tk H12 (upd (upd H12 tp (.tup [.str (S w'), .int (1 + (j : Int))])) d1 (.lst (z1 ++ [.ref tp]))) := (Tk.new htp _).trans (Tk.lst q1t _)
          have ktp : (upd (upd H12 tp (.tup [.str (S w'), .int (1 + (j : Int))])) d1 (.lst (z1 ++ [.ref tp]))) tp = some (.tup [.str (S w'), .int (1 + (j : Int))]) := by rw [upd_ne (ne_of_none q1 htp).symm]; exact upd_same
          walk_at "go"
          have hnt13 := k4 _ _ hnt12
          refine i_inR (seqR_tup hnt13) ⟨rfl, flat_ints _⟩ ?_
          rw [hb1, decide_eq_true hg]
          walk_at "go"
          rw [decide_eq_false ho, if_pos (by rfl), if_neg (by simp [isWrong]), List.append_nil]
          refine ⟨_, _, z2, rfl, upd_same, ?_, ?_, ?_, IsL.tk k4 (tOnly_gaps _) i2, ?_, fun b' o e => ?_⟩
          · rw [upd_ne n12.symm]; exact st _ _ q2
          · rw [upd_ne n1d.symm]; exact q3t
          · rw [List.map_append]
            refine IsL.snoc (IsL.tk k4 (tOnly_gaps _) i1) (isGap_mk (x := (w', (j : Int) + 1)) ?_)
            rw [ktp, Int.add_comm]
          · rw [upd_ne nf1]; exact st _ _ e12
          · have hbr : b' ≠ d1 := fun z => by rw [z, hd1] at e; cases e
            rw [upd_ne hbr]; exact st _ _ (s12 _ _ e)
      · rw [decide_eq_false hg]
        walk_at "go"
        refine i_inR (seqR_tup hnt12) ⟨rfl, flat_ints _⟩ ?_
        rw [hb1, decide_eq_false hg]
        walk_at "go"
        by_cases ho : vj % 2 = 1
        · refine iteDT (by congr 1) ?_
          walk_at "go"
          intro tp htp
          have st := same_new htp (.tup [.str (S w'), .int (1 + (j : Int))])
          have q2t := st _ _ q2
          have q3t := st _ _ q3
          have k4 : Tk H12 (upd (upd H12 tp (.tup [.str (S w'), .int (1 + (j : Int))])) d2 (.lst (z2 ++ [.ref tp]))) := (Tk.new htp _).trans (Tk.lst q2t _)
          have ktp : (upd (upd H12 tp (.tup [.str (S w'), .int (1 + (j : Int))])) d2 (.lst (z2 ++ [.ref tp]))) tp = some (.tup [.str (S w'), .int (1 + (j : Int))]) := by rw [upd_ne (ne_of_none q2 htp).symm]; exact upd_same
          walk_at "go"
          rw [decide_eq_true ho, if_pos (show isWrong _ = true by rfl), if_neg (by simp [isMiss]), List.append_nil]
          refine ⟨_, z1, _, rfl, ?_, upd_same, ?_, IsL.tk k4 (tOnly_gaps _) i1, ?_, ?_, fun b' o e => ?_⟩
          · rw [upd_ne n12]; exact st _ _ q1
          · rw [upd_ne n2d.symm]; exact q3t
          · rw [List.map_append]
            refine IsL.snoc (IsL.tk k4 (tOnly_gaps _) i2) (isGap_mk (x := (w', (j : Int) + 1)) ?_)
            rw [ktp, Int.add_comm]
          · rw [upd_ne nf2]; exact st _ _ e12
          · have hbr : b' ≠ d2 := fun z => by rw [z, f2] at e; cases e
            rw [upd_ne hbr]; exact st _ _ (s12 _ _ e)
        · refine iteDF (fun z => by injection z with z; omega) ?_
          walk_at "go"
          rw [decide_eq_false ho, if_neg (by simp [isMiss]), if_neg (by simp [isWrong]), List.append_nil, List.append_nil]
          exact ⟨_, z1, z2, rfl, q1, q2, q3, i1, i2, e12, s12⟩
    · rintro σ H12 ⟨v9, z1, z2, rfl, q1, q2, q3, i1, i2, e12, s12⟩
      have hn : ((w'.length : Int) - 1).toNat = w'.length - 1 := by omega
      rw [hn] at i1 i2
      walk_at "go"
      exact ⟨_, _, _, _, z1, z2, rfl, q1, q2, q3, i1, i2, s12⟩
  · rintro σ H10 ⟨v6, v7, v8, v9, z1, z2, rfl, q1, q2, q3, i1, i2, s10⟩
    rw [hyl, List.take_length] at i1 i2
    have e710 := s10 _ _ e78
    have e810 := s10 _ _ e8
    walk_at "go"
    refine i_listR (seqR_lst e710) fun hw hhw => ?_
    have sw := same_new hhw (.lst ys)
    have e811 := sw _ _ e810
    walk_at "go"
    refine i_listR (seqR_lst e811) fun hp hhp => ?_
    have sp := same_new hhp (.lst acc)
    walk_at "go"
    intro hn hhn
    have sn := same_new hhn (.lst [.ref hw, .ref hp])
    have s1013 := (sw.trans sp).trans sn
    have ehw := sn _ _ (sp _ _ (upd_same (H := H10) (a := hw) (o := .lst ys)))
    have ehp := sn _ _ (upd_same (H := upd H10 hw (.lst ys)) (a := hp) (o := .lst acc))
    have ehn := upd_same (H := upd (upd H10 hw (.lst ys)) hp (.lst acc)) (a := hn) (o := .lst [.ref hw, .ref hp])
    generalize upd (upd (upd H10 hw (.lst ys)) hp (.lst acc)) hn (.lst [.ref hw, .ref hp]) = H13 at s1013 ehw ehp ehn ⊢
    have s813 := s10.trans s1013
    have q113 := s1013 _ _ q1
    have q213 := s1013 _ _ q2
    have q313 := s1013 _ _ q3
    have i113 := IsL.same s1013 i1
    have i213 := IsL.same s1013 i2
    have hlw : ∀ x ∈ ws, 1 ≤ x.1.length ∧ x.1.length ≤ 100 := fun x hx => by
      obtain ⟨_, h2, h3, _⟩ := hws x hx
      exact ⟨h2, by omega⟩
    have hcsw : ∀ x ∈ ws, ∀ c ∈ x.1, c < 128 := fun x hx => Low_lt (hws x hx).1
    have hcsx : ∀ x ∈ xs, ∀ c ∈ x.1, c < 128 := fun x hx => (hgp x hx).cs
    have hbA : (seenA xs ws).length ≤ 8 * 7 := by
      have h2 := seenA_len (xs := xs) (m := 7) (ws := ws) fun y hy => (hws y hy).2.2.1
      have h3 : ws.length * 7 ≤ 8 * 7 := Nat.mul_le_mul_right _ (by omega)
      omega
    have hb1 := gapsBy_len isMiss (seenA xs ws)
    have hb2 := gapsBy_len isWrong (seenA xs ws)
    clear s1013 sn sp sw i1 i2 q1 q2 q3 e811 e810 e710 hhw hhp hhn
    walk_at "go"
    refine for_range (fun i σ H' => ∃ (v6 v7 v8 v9 v11 : Option V), σ = [some (.ref a), some (.ref lt), some (.ref r5), some (.ref wr), some (.ref pr), some (.ref dd), v6, v7, v8, v9, some (.ref hn), v11] ∧ Same H13 H')
      ⟨_, _, _, _, _, rfl, Same.refl _⟩ ?_ ?_
    · rintro i σ H14 hi ⟨v6, v7, v8, v9, v11, rfl, s14⟩
      have ehn14 := s14 _ _ ehn
      have ehw14 := s14 _ _ ehw
      have ehp14 := s14 _ _ ehp
      have s814 := s813.trans s14
      walk_at "go"
      refine ⟨.ref hw, .ref hp, ws, xs, rfl, isW s814 ehw14, isX s814 ehp14, hgv, by omega, hlw, by omega, fun m1 zm H15 hm1 em1 im1 s15 => ?_⟩
      have ehn15 := s15 _ _ ehn14
      have ehw15 := s15 _ _ ehw14
      have ehp15 := s15 _ _ ehp14
      have s815 := s814.trans s15
      walk_at "go"
      refine ⟨.ref hw, .ref hp, ws, xs, rfl, isW s815 ehw15, isX s815 ehp15, hgv, by omega, hlw, by omega, fun m2 zw H16 hm2 em2 im2 s16 => ?_⟩
      have s816 := s815.trans s16
      walk_at "go"
      intro fl hfl
      have s17 := same_new hfl (.lst [.ref m1, .ref m2])
      have efl := upd_same (H := H16) (a := fl) (o := .lst [.ref m1, .ref m2])
      have em117 := s17 _ _ (s16 _ _ em1)
      have em217 := s17 _ _ em2
      have im117 := IsL.same (s16.trans s17) im1
      have im217 := IsL.same s17 im2
      have s1417 := (s15.trans s16).trans s17
      have s1317 := s14.trans s1417
      have s817 := s813.trans s1317
      generalize upd H16 fl (.lst [.ref m1, .ref m2]) = H17 at s17 efl em117 em217 im117 im217 s1417 s1317 s817 ⊢
      have f1 : H13 m1 = none := s14.free hm1
      have f2' : H13 m2 = none := (s14.trans s15).free hm2
      have ffl : H13 fl = none := ((s14.trans s15).trans s16).free hfl
      have e717 := s817 _ _ e78
      have e817 := s817 _ _ e8
      walk_at "go"
      intro cp hcp
      have s18 := same_new hcp (.lst [.ref wr, .ref pr])
      have ecp := upd_same (H := H17) (a := cp) (o := .lst [.ref wr, .ref pr])
      have s818 := s817.trans s18
      have s1318 := s1317.trans s18
      generalize upd H17 cp (.lst [.ref wr, .ref pr]) = H18 at s18 ecp s818 s1318 ⊢
      refine i_neD (d := .lst [patsD ws, patsD xs]) ?_ ?_ ?_ ?_
      · simp only [Is]
        exact ⟨hn, _, rfl, s1318 _ _ ehn, by simp only [L2.IsL]; exact ⟨isW s818 (s1318 _ _ ehw), isX s818 (s1318 _ _ ehp), trivial⟩⟩
      · simp only [Is]
        exact ⟨cp, _, rfl, ecp, by simp only [L2.IsL]; exact ⟨isW s818 (s818 _ _ e78), isX s818 (s818 _ _ e8), trivial⟩⟩
      · refine (Lay.lst (n := 3) fun d hd => ?_).ok (by decide)
        simp only [List.mem_cons, List.not_mem_nil, or_false] at hd
        rcases hd with rfl | rfl
        · exact Lay.pats hcsw
        · exact Lay.pats hcsx
      walk_at "go"
      have efl18 := s18 _ _ efl
      have edd18 := s1318 _ _ q313
      refine i_zip0L ?_
      walk_at "go"
      refine i_zipL efl18 edd18 ?_
      walk_at "go"
      intro cr hcr
      have s19 := same_new hcr (.lst [])
      have em118 := s18 _ _ em117
      have em218 := s18 _ _ em217
      have im118 := IsL.same s18 im117
      have im218 := IsL.same s18 im217
      refine comp_zip 2 rfl (fun i acc σ H' => ∃ (v0 v1 : Option V), σ = [v0, v1] ∧ acc = (List.replicate i true).map V.bl ∧ H' cr = some (.lst acc) ∧ Same H18 H')
        (fun i acc σ H' _ ⟨_, _, _, _, _, s⟩ => ⟨s _ _ efl18, s _ _ edd18⟩) ⟨none, none, rfl, rfl, upd_same, s19⟩ (fun i acc σ H' ⟨_, _, _, e, e3, _⟩ => ⟨e3, by rw [e]; simp⟩) (szn (by decide)) ?_ ?_
      · rintro i u v acc σ H19 T2 hu hv ⟨v0, v1, rfl, rfl, e19, s19⟩ hT
        have sT := same_new hT (.tup [u, v])
        have e20 := sT _ _ e19
        have s20 := s19.trans sT
        refine i_gtup upd_same rfl (i_gcons (i_name (i_gcons (i_name (i_gnil ?_)))))
        generalize upd H19 T2 (.tup [u, v]) = H20 at sT e20 s20 ⊢
        walk_at "go"
        have fin : ∀ H21, Same H20 H21 → H21 cr = some (.lst ((List.replicate i true).map V.bl)) ∧ ∃ v0 v1, [some u, some v] = [v0, v1] ∧ (List.replicate i true).map V.bl ++ [V.bl true] = (List.replicate (i + 1) true).map V.bl ∧ (upd H21 cr (.lst ((List.replicate i true).map V.bl ++ [V.bl true]))) cr = some (.lst ((List.replicate i true).map V.bl ++ [V.bl true])) ∧ Same H18 (upd H21 cr (.lst ((List.replicate i true).map V.bl ++ [V.bl true]))) := fun H21 s21 => by
          refine ⟨s21 _ _ e20, _, _, rfl, by rw [List.replicate_succ', List.map_append]; rfl, upd_same, fun b' o e => ?_⟩
          have hbr : b' ≠ cr := fun z => by rw [z, hcr] at e; cases e
          rw [upd_ne hbr]; exact s21 _ _ (s20 b' o e)
        match i, hu, hv with
        | 0, hu, hv =>
          cases hu; cases hv
          refine ⟨m1, d1, zm, z1, _, rfl, s20 _ _ em118, s20 _ _ (s1318 _ _ q113), IsL.same s20 im118, IsL.same s20 (IsL.same s1318 i113), gapsBy_cs hcsw, by omega, fin⟩
        | 1, hu, hv =>
          cases hu; cases hv
          refine ⟨m2, d2, zw, z2, _, rfl, s20 _ _ em218, s20 _ _ (s1318 _ _ q213), IsL.same s20 im218, IsL.same s20 (IsL.same s1318 i213), gapsBy_cs hcsw, by omega, fin⟩
        | k + 2, hu, hv => simp at hu
      · rintro acc σ H19 ⟨v0, v1, rfl, rfl, e19, s19⟩
        walk_at "go"
        refine i_allL (lstR_of e19) ?_
        walk_at "go"
        have em119 := s19 _ _ em118
        have em219 := s19 _ _ em218
        have efl19 := s19 _ _ efl18
        have s1319 := s1318.trans s19
        have nm : fl ≠ m1 := fun z => by rw [z, s16 _ _ em1] at hfl; cases hfl
        have nm12 : m2 ≠ m1 := fun z => by rw [z, em1] at hm2; cases hm2
        try refine iteBF (by simp) ?_
        walk_at "go"
        refine i_clrL em119 ?_
        have ef20 : (upd H19 m1 (.lst [])) fl = some (.lst [.ref m1, .ref m2]) := by rw [upd_ne nm]; exact efl19
        have em220 : (upd H19 m1 (.lst [])) m2 = some (.lst zw) := by rw [upd_ne nm12]; exact em219
        walk_at "go"
        refine i_clrL em220 ?_
        walk_at "go"
        refine ⟨_, _, _, _, _, rfl, fun b' o e => ?_⟩
        have hb2 : b' ≠ m2 := fun z => by rw [z, f2'] at e; cases e
        have hb1 : b' ≠ m1 := fun z => by rw [z, f1] at e; cases e
        rw [upd_ne hb2, upd_ne hb1]; exact s1319 _ _ e
    · rintro σ H14 ⟨v6, v7, v8, v9, v11, rfl, s14⟩
      walk_at "go"
      exact q H14
end
theorem all_mk {l : PySem.W.OpenLaw} {w : World} {K : PySem.W.Frag} {h : Heap} {mg : Str → Option Value} {fa f0 f1 f2 f3 f4 f5 f6 f7 f8 f9 f10 f11 f12 f13 : Addr} (X : K.In h) (G : h.Ns mainGlobals mg) (hfa : mg "law" = some (.ref fa))
    {od0 an0 : Option Addr} {sl0 : Array (Option Value)} {oc0 kV0 dc0 pm0 cd0 ct0 : Value}
    (a0 : PySem.W.nsIn K mainGlobals "fitting_places" = some (some (.ref f0))) (l0 : K.lookup f0 = some ⟨oc0, od0, .func (PySem.W.fnOf "fitting_places" "fitting_places" (defArgs s_fitting_places) (defBody s_fitting_places) (defScope s_fitting_places) .none kV0 dc0 pm0 an0 cd0 ct0), sl0⟩) (c_0 : PySem.W.codeIn K cd0 "fitting_places" = true) (k0 : PySem.W.keepIn K (.ref f0) = true)
    {od1 an1 : Option Addr} {sl1 : Array (Option Value)} {oc1 kV1 dc1 pm1 cd1 ct1 : Value}
    (a1 : PySem.W.nsIn K mainGlobals "values_by_fits" = some (some (.ref f1))) (l1 : K.lookup f1 = some ⟨oc1, od1, .func (PySem.W.fnOf "values_by_fits" "values_by_fits" (defArgs s_values_by_fits) (defBody s_values_by_fits) (defScope s_values_by_fits) .none kV1 dc1 pm1 an1 cd1 ct1), sl1⟩) (c_1 : PySem.W.codeIn K cd1 "values_by_fits" = true) (k1 : PySem.W.keepIn K (.ref f1) = true)
    {od2 an2 : Option Addr} {sl2 : Array (Option Value)} {oc2 kV2 dc2 pm2 cd2 ct2 : Value}
    (a2 : PySem.W.nsIn K mainGlobals "values" = some (some (.ref f2))) (l2 : K.lookup f2 = some ⟨oc2, od2, .func (PySem.W.fnOf "values" "values" (defArgs s_values) (defBody s_values) (defScope s_values) .none kV2 dc2 pm2 an2 cd2 ct2), sl2⟩) (c_2 : PySem.W.codeIn K cd2 "values" = true) (k2 : PySem.W.keepIn K (.ref f2) = true)
    {od3 an3 : Option Addr} {sl3 : Array (Option Value)} {oc3 kV3 dc3 pm3 cd3 ct3 : Value}
    (a3 : PySem.W.nsIn K mainGlobals "breaks" = some (some (.ref f3))) (l3 : K.lookup f3 = some ⟨oc3, od3, .func (PySem.W.fnOf "breaks" "breaks" (defArgs s_breaks) (defBody s_breaks) (defScope s_breaks) .none kV3 dc3 pm3 an3 cd3 ct3), sl3⟩) (c_3 : PySem.W.codeIn K cd3 "breaks" = true) (k3 : PySem.W.keepIn K (.ref f3) = true)
    {od4 an4 : Option Addr} {sl4 : Array (Option Value)} {oc4 kV4 dc4 pm4 cd4 ct4 : Value}
    (a4 : PySem.W.nsIn K mainGlobals "seen_gaps" = some (some (.ref f4))) (l4 : K.lookup f4 = some ⟨oc4, od4, .func (PySem.W.fnOf "seen_gaps" "seen_gaps" (defArgs s_seen_gaps) (defBody s_seen_gaps) (defScope s_seen_gaps) .none kV4 dc4 pm4 an4 cd4 ct4), sl4⟩) (c_4 : PySem.W.codeIn K cd4 "seen_gaps" = true) (k4 : PySem.W.keepIn K (.ref f4) = true)
    {od5 an5 : Option Addr} {sl5 : Array (Option Value)} {oc5 kV5 dc5 pm5 cd5 ct5 : Value}
    (a5 : PySem.W.nsIn K mainGlobals "missed" = some (some (.ref f5))) (l5 : K.lookup f5 = some ⟨oc5, od5, .func (PySem.W.fnOf "missed" "missed" (defArgs s_missed) (defBody s_missed) (defScope s_missed) .none kV5 dc5 pm5 an5 cd5 ct5), sl5⟩) (c_5 : PySem.W.codeIn K cd5 "missed" = true) (k5 : PySem.W.keepIn K (.ref f5) = true)
    {od6 an6 : Option Addr} {sl6 : Array (Option Value)} {oc6 kV6 dc6 pm6 cd6 ct6 : Value}
    (a6 : PySem.W.nsIn K mainGlobals "wrong" = some (some (.ref f6))) (l6 : K.lookup f6 = some ⟨oc6, od6, .func (PySem.W.fnOf "wrong" "wrong" (defArgs s_wrong) (defBody s_wrong) (defScope s_wrong) .none kV6 dc6 pm6 an6 cd6 ct6), sl6⟩) (c_6 : PySem.W.codeIn K cd6 "wrong" = true) (k6 : PySem.W.keepIn K (.ref f6) = true)
    {od7 an7 : Option Addr} {sl7 : Array (Option Value)} {oc7 kV7 dc7 pm7 cd7 ct7 : Value}
    (a7 : PySem.W.nsIn K mainGlobals "_law_row" = some (some (.ref f7))) (l7 : K.lookup f7 = some ⟨oc7, od7, .func (PySem.W.fnOf "_law_row" "_law_row" (defArgs s_law_row) (defBody s_law_row) (defScope s_law_row) .none kV7 dc7 pm7 an7 cd7 ct7), sl7⟩) (c_7 : PySem.W.codeIn K cd7 "_law_row" = true) (k7 : PySem.W.keepIn K (.ref f7) = true)
    {od8 an8 : Option Addr} {sl8 : Array (Option Value)} {oc8 kV8 dc8 pm8 cd8 ct8 : Value}
    (a8 : PySem.W.nsIn K mainGlobals "_law_letters" = some (some (.ref f8))) (l8 : K.lookup f8 = some ⟨oc8, od8, .func (PySem.W.fnOf "_law_letters" "_law_letters" (defArgs s_law_letters) (defBody s_law_letters) (defScope s_law_letters) .none kV8 dc8 pm8 an8 cd8 ct8), sl8⟩) (c_8 : PySem.W.codeIn K cd8 "_law_letters" = true) (k8 : PySem.W.keepIn K (.ref f8) = true)
    {od9 an9 : Option Addr} {sl9 : Array (Option Value)} {oc9 kV9 dc9 pm9 cd9 ct9 : Value}
    (a9 : PySem.W.nsIn K mainGlobals "_law_pattern" = some (some (.ref f9))) (l9 : K.lookup f9 = some ⟨oc9, od9, .func (PySem.W.fnOf "_law_pattern" "_law_pattern" (defArgs s_law_pattern) (defBody s_law_pattern) (defScope s_law_pattern) .none kV9 dc9 pm9 an9 cd9 ct9), sl9⟩) (c_9 : PySem.W.codeIn K cd9 "_law_pattern" = true) (k9 : PySem.W.keepIn K (.ref f9) = true)
    {od10 an10 : Option Addr} {sl10 : Array (Option Value)} {oc10 kV10 dc10 pm10 cd10 ct10 : Value}
    (a10 : PySem.W.nsIn K mainGlobals "_law_values" = some (some (.ref f10))) (l10 : K.lookup f10 = some ⟨oc10, od10, .func (PySem.W.fnOf "_law_values" "_law_values" (defArgs s_law_values) (defBody s_law_values) (defScope s_law_values) .none kV10 dc10 pm10 an10 cd10 ct10), sl10⟩) (c_10 : PySem.W.codeIn K cd10 "_law_values" = true) (k10 : PySem.W.keepIn K (.ref f10) = true)
    {od11 an11 : Option Addr} {sl11 : Array (Option Value)} {oc11 kV11 dc11 pm11 cd11 ct11 : Value}
    (a11 : PySem.W.nsIn K mainGlobals "_law_words" = some (some (.ref f11))) (l11 : K.lookup f11 = some ⟨oc11, od11, .func (PySem.W.fnOf "_law_words" "_law_words" (defArgs s_law_words) (defBody s_law_words) (defScope s_law_words) .none kV11 dc11 pm11 an11 cd11 ct11), sl11⟩) (c_11 : PySem.W.codeIn K cd11 "_law_words" = true) (k11 : PySem.W.keepIn K (.ref f11) = true)
    {od12 an12 : Option Addr} {sl12 : Array (Option Value)} {oc12 kV12 dc12 pm12 cd12 ct12 : Value}
    (a12 : PySem.W.nsIn K mainGlobals "_law_is_list" = some (some (.ref f12))) (l12 : K.lookup f12 = some ⟨oc12, od12, .func (PySem.W.fnOf "_law_is_list" "_law_is_list" (defArgs s_law_is_list) (defBody s_law_is_list) (defScope s_law_is_list) .none kV12 dc12 pm12 an12 cd12 ct12), sl12⟩) (c_12 : PySem.W.codeIn K cd12 "_law_is_list" = true) (k12 : PySem.W.keepIn K (.ref f12) = true)
    {od13 an13 : Option Addr} {sl13 : Array (Option Value)} {oc13 kV13 dc13 pm13 cd13 ct13 : Value}
    (a13 : PySem.W.nsIn K mainGlobals "law" = some (some (.ref f13))) (l13 : K.lookup f13 = some ⟨oc13, od13, .func (PySem.W.fnOf "law" "law" (defArgs s_law) (defBody s_law) (defScope s_law) .none kV13 dc13 pm13 an13 cd13 ct13), sl13⟩) (c_13 : PySem.W.codeIn K cd13 "law" = true) (k13 : PySem.W.keepIn K (.ref f13) = true)
    (z_len : PySem.W.nsIn K mainGlobals "len" = some none)
    (z_all : PySem.W.nsIn K mainGlobals "all" = some none)
    (z_range : PySem.W.nsIn K mainGlobals "range" = some none)
    (z_enumerate : PySem.W.nsIn K mainGlobals "enumerate" = some none)
    (z_isinstance : PySem.W.nsIn K mainGlobals "isinstance" = some none)
    (z_tuple : PySem.W.nsIn K mainGlobals "tuple" = some none)
    (z_list : PySem.W.nsIn K mainGlobals "list" = some none)
    (z_bool : PySem.W.nsIn K mainGlobals "bool" = some none)
    (z_str : PySem.W.nsIn K mainGlobals "str" = some none)
    (z_int : PySem.W.nsIn K mainGlobals "int" = some none)
    (z_max : PySem.W.nsIn K mainGlobals "max" = some none)
    (z_zip : PySem.W.nsIn K mainGlobals "zip" = some none)
    : ∃ fd : FuncData, (∀ (s : Shared) (v : Value), BindsTo s fd ⟨[v], []⟩ [("_law_script", v)]) ∧ ∀ base : Heap, K.In base → base.Ns mainGlobals mg → FnOk l.prog w K mg base CX0 8 fa fd ["_law_script"] (spLaw K) := by
  have e := hfa.symm.trans (PySem.W.mg_of X G a13)
  cases e
  have T : Txt mg (fun i => ([] : List Tok).getD i 0) := ⟨PySem.W.mg_none_of X G z_len, PySem.W.mg_none_of X G z_all, PySem.W.mg_none_of X G z_range, PySem.W.mg_none_of X G z_enumerate, PySem.W.mg_none_of X G z_isinstance, PySem.W.mg_none_of X G z_tuple, PySem.W.mg_none_of X G z_list, PySem.W.mg_none_of X G z_bool, PySem.W.mg_none_of X G z_str, PySem.W.mg_none_of X G z_int, PySem.W.mg_none_of X G z_max, PySem.W.mg_none_of X G z_zip⟩
  have F_fitting_places := fun_mk (st := s_fitting_places) l0 c_0 k0
  have b_fitting_places := F_fitting_places.binds (ps := ["signs", "framed"]) fun _ _ _ _ _ _ us hl => match us, hl with | [_, _], _ => rfl
  have m_fitting_places := PySem.W.mg_of X G a0
  have F_values_by_fits := fun_mk (st := s_values_by_fits) l1 c_1 k1
  have b_values_by_fits := F_values_by_fits.binds (ps := ["fits", "word"]) fun _ _ _ _ _ _ us hl => match us, hl with | [_, _], _ => rfl
  have m_values_by_fits := PySem.W.mg_of X G a1
  have F_values := fun_mk (st := s_values) l2 c_2 k2
  have b_values := F_values.binds (ps := ["patterns", "word"]) fun _ _ _ _ _ _ us hl => match us, hl with | [_, _], _ => rfl
  have m_values := PySem.W.mg_of X G a2
  have F_breaks := fun_mk (st := s_breaks) l3 c_3 k3
  have b_breaks := F_breaks.binds (ps := ["patterns", "word"]) fun _ _ _ _ _ _ us hl => match us, hl with | [_, _], _ => rfl
  have m_breaks := PySem.W.mg_of X G a3
  have F_seen_gaps := fun_mk (st := s_seen_gaps) l4 c_4 k4
  have b_seen_gaps := F_seen_gaps.binds (ps := ["words", "patterns"]) fun _ _ _ _ _ _ us hl => match us, hl with | [_, _], _ => rfl
  have m_seen_gaps := PySem.W.mg_of X G a4
  have F_missed := fun_mk (st := s_missed) l5 c_5 k5
  have b_missed := F_missed.binds (ps := ["words", "patterns"]) fun _ _ _ _ _ _ us hl => match us, hl with | [_, _], _ => rfl
  have m_missed := PySem.W.mg_of X G a5
  have F_wrong := fun_mk (st := s_wrong) l6 c_6 k6
  have b_wrong := F_wrong.binds (ps := ["words", "patterns"]) fun _ _ _ _ _ _ us hl => match us, hl with | [_, _], _ => rfl
  have m_wrong := PySem.W.mg_of X G a6
  have F_law_row := fun_mk (st := s_law_row) l7 c_7 k7
  have b_law_row := F_law_row.binds (ps := ["_law_script", "_law_at", "_law_bounds"]) fun _ _ _ _ _ _ us hl => match us, hl with | [_, _, _], _ => rfl
  have m_law_row := PySem.W.mg_of X G a7
  have F_law_letters := fun_mk (st := s_law_letters) l8 c_8 k8
  have b_law_letters := F_law_letters.binds (ps := ["_law_numbers"]) fun _ _ _ _ _ _ us hl => match us, hl with | [_], _ => rfl
  have m_law_letters := PySem.W.mg_of X G a8
  have F_law_pattern := fun_mk (st := s_law_pattern) l9 c_9 k9
  have b_law_pattern := F_law_pattern.binds (ps := ["_law_script", "_law_at", "_law_letters_here"]) fun _ _ _ _ _ _ us hl => match us, hl with | [_, _, _], _ => rfl
  have m_law_pattern := PySem.W.mg_of X G a9
  have F_law_values := fun_mk (st := s_law_values) l10 c_10 k10
  have b_law_values := F_law_values.binds (ps := ["_law_patterns", "_law_word"]) fun _ _ _ _ _ _ us hl => match us, hl with | [_, _], _ => rfl
  have m_law_values := PySem.W.mg_of X G a10
  have F_law_words := fun_mk (st := s_law_words) l11 c_11 k11
  have b_law_words := F_law_words.binds (ps := ["_law_script", "_law_at", "_law_letters_here", "_law_many", "_law_longest"]) fun _ _ _ _ _ _ us hl => match us, hl with | [_, _, _, _, _], _ => rfl
  have m_law_words := PySem.W.mg_of X G a11
  have F_law_is_list := fun_mk (st := s_law_is_list) l12 c_12 k12
  have b_law_is_list := F_law_is_list.binds (ps := ["_law_found", "_law_due"]) fun _ _ _ _ _ _ us hl => match us, hl with | [_, _], _ => rfl
  have m_law_is_list := PySem.W.mg_of X G a12
  have F_law := fun_mk (st := s_law) l13 c_13 k13
  have b_law := F_law.binds (ps := ["_law_script"]) fun _ _ _ _ _ _ us hl => match us, hl with | [_], _ => rfl
  have m_law := PySem.W.mg_of X G a13
  refine ⟨PySem.W.fnOf "law" "law" (defArgs s_law) (defBody s_law) (defScope s_law) .none kV13 dc13 pm13 an13 cd13 ct13, fun s v => .of_eq rfl, fun base _ _ => ?_⟩
  have D_fitting_places : Dn l.prog w K mg base "fitting_places" 1 ["signs", "framed"] spFit := ⟨_, _, m_fitting_places, F_fitting_places.kp, b_fitting_places, ok_fitting_places T F_fitting_places⟩
  have D_values_by_fits : Dn l.prog w K mg base "values_by_fits" 1 ["fits", "word"] spByFits := ⟨_, _, m_values_by_fits, F_values_by_fits.kp, b_values_by_fits, ok_values_by_fits T F_values_by_fits⟩
  have D_values : Dn l.prog w K mg base "values" 2 ["patterns", "word"] spValues := ⟨_, _, m_values, F_values.kp, b_values, ok_values T F_values D_fitting_places D_values_by_fits⟩
  have D_breaks : Dn l.prog w K mg base "breaks" 3 ["patterns", "word"] spBreaks := ⟨_, _, m_breaks, F_breaks.kp, b_breaks, ok_breaks T F_breaks D_values⟩
  have D_seen_gaps : Dn l.prog w K mg base "seen_gaps" 4 ["words", "patterns"] spSeen := ⟨_, _, m_seen_gaps, F_seen_gaps.kp, b_seen_gaps, ok_seen_gaps T F_seen_gaps D_breaks⟩
  have D_missed : Dn l.prog w K mg base "missed" 5 ["words", "patterns"] (spGaps isMiss) := ⟨_, _, m_missed, F_missed.kp, b_missed, ok_missed T F_missed D_seen_gaps⟩
  have D_wrong : Dn l.prog w K mg base "wrong" 5 ["words", "patterns"] (spGaps isWrong) := ⟨_, _, m_wrong, F_wrong.kp, b_wrong, ok_wrong T F_wrong D_seen_gaps⟩
  have D_law_row : Dn l.prog w K mg base "_law_row" 1 ["_law_script", "_law_at", "_law_bounds"] (spRow K) := ⟨_, _, m_law_row, F_law_row.kp, b_law_row, ok_law_row T F_law_row⟩
  have D_law_letters : Dn l.prog w K mg base "_law_letters" 1 ["_law_numbers"] spLets := ⟨_, _, m_law_letters, F_law_letters.kp, b_law_letters, ok_law_letters T F_law_letters⟩
  have D_law_pattern : Dn l.prog w K mg base "_law_pattern" 2 ["_law_script", "_law_at", "_law_letters_here"] (spPat K) := ⟨_, _, m_law_pattern, F_law_pattern.kp, b_law_pattern, ok_law_pattern T F_law_pattern D_law_row⟩
  have D_law_values : Dn l.prog w K mg base "_law_values" 1 ["_law_patterns", "_law_word"] spValues := ⟨_, _, m_law_values, F_law_values.kp, b_law_values, ok_law_values T F_law_values⟩
  have D_law_words : Dn l.prog w K mg base "_law_words" 2 ["_law_script", "_law_at", "_law_letters_here", "_law_many", "_law_longest"] (spWords K) := ⟨_, _, m_law_words, F_law_words.kp, b_law_words, ok_law_words T F_law_words D_law_row⟩
  have D_law_is_list : Dn l.prog w K mg base "_law_is_list" 1 ["_law_found", "_law_due"] spIsList := ⟨_, _, m_law_is_list, F_law_is_list.kp, b_law_is_list, ok_law_is_list T F_law_is_list⟩
  exact ok_law T F_law D_law_row D_law_letters D_law_pattern D_law_values D_law_words D_law_is_list D_missed D_wrong
theorem walk {l : PySem.W.OpenLaw} {q : Program} {loose : List Str} {XP : (Str → Option Value) → Heap → Prop} {YP : World → Heap → Prop} {d : DefRec} {K : Params → PySem.W.Frag} (hn : l.most = some 63) (hdf : d.params.defaults = [])
    (hY : ∀ (w : World) (h : Heap), YP w h → (K w.params).In h)
    (F : ∀ (w : World) (mg : Str → Option Value) (fa : Addr) (h : Heap), (K w.params).In h → h.Ns mainGlobals mg → mg d.name = some (.ref fa) →
      ∃ fd : FuncData, (∀ (s : Shared) (u : Value), BindsTo s fd ⟨[u], []⟩ [("_law_script", u)]) ∧ ∀ base : Heap, (K w.params).In base → base.Ns mainGlobals mg → FnOk l.prog w (K w.params) mg base CX0 8 fa fd ["_law_script"] (spLaw (K w.params))) :
    PySem.W.WalkO q loose XP YP l.row.toRowW d [] (fun f vs => PySem.call f vs) :=
  L2.walk_of (n := 63) (k := 8) (x := "_law_script") (CX := fun _ => CX0) (sp := fun w => spLaw (K w.params)) hn (by decide) hdf ⟨rfl, by decide, by decide⟩ hY F (fun _ _ a ns hl _ hS => ⟨a, ns, rfl, hS, hl, fun _ => rfl⟩) fun _ _ _ _ _ z => z
end K40
open PySem PySem.W PyProof.Rows
set_option maxRecDepth 100000 in
set_option maxHeartbeats 0 in
theorem PySem.Challenge.cw_breakwords_k40_what_is_missed_and_wrong_holds : PySem.Challenge.rw_breakwords_k40_what_is_missed_and_wrong.Holds := by
  w_on; o_law; k_head; (case hw => w_witness2)
  k_fill
  refine K40.walk (l := PySem.Challenge.rw_breakwords_k40_what_is_missed_and_wrong) rfl rfl (fun w h Y => PySem.W.kIn_of Y) ?F
  case F =>
    intro w mg fa h KX G hmg
    refine' K40.all_mk KX G hmg ?a0 ?l0 ?c_0 ?k0 ?a1 ?l1 ?c_1 ?k1 ?a2 ?l2 ?c_2 ?k2 ?a3 ?l3 ?c_3 ?k3 ?a4 ?l4 ?c_4 ?k4 ?a5 ?l5 ?c_5 ?k5 ?a6 ?l6 ?c_6 ?k6 ?a7 ?l7 ?c_7 ?k7 ?a8 ?l8 ?c_8 ?k8 ?a9 ?l9 ?c_9 ?k9 ?a10 ?l10 ?c_10 ?k10 ?a11 ?l11 ?c_11 ?k11 ?a12 ?l12 ?c_12 ?k12 ?a13 ?l13 ?c_13 ?k13 ?z_len ?z_all ?z_range ?z_enumerate ?z_isinstance ?z_tuple ?z_list ?z_bool ?z_str ?z_int ?z_max ?z_zip
    (case a0 => k_is)
    (case l0 => k_is)
    (case c_0 => k_is)
    (case k0 => k_is)
    (case a1 => k_is)
    (case l1 => k_is)
    (case c_1 => k_is)
    (case k1 => k_is)
    (case a2 => k_is)
    (case l2 => k_is)
    (case c_2 => k_is)
    (case k2 => k_is)
    (case a3 => k_is)
    (case l3 => k_is)
    (case c_3 => k_is)
    (case k3 => k_is)
    (case a4 => k_is)
    (case l4 => k_is)
    (case c_4 => k_is)
    (case k4 => k_is)
    (case a5 => k_is)
    (case l5 => k_is)
    (case c_5 => k_is)
    (case k5 => k_is)
    (case a6 => k_is)
    (case l6 => k_is)
    (case c_6 => k_is)
    (case k6 => k_is)
    (case a7 => k_is)
    (case l7 => k_is)
    (case c_7 => k_is)
    (case k7 => k_is)
    (case a8 => k_is)
    (case l8 => k_is)
    (case c_8 => k_is)
    (case k8 => k_is)
    (case a9 => k_is)
    (case l9 => k_is)
    (case c_9 => k_is)
    (case k9 => k_is)
    (case a10 => k_is)
    (case l10 => k_is)
    (case c_10 => k_is)
    (case k10 => k_is)
    (case a11 => k_is)
    (case l11 => k_is)
    (case c_11 => k_is)
    (case k11 => k_is)
    (case a12 => k_is)
    (case l12 => k_is)
    (case c_12 => k_is)
    (case k12 => k_is)
    (case a13 => k_is)
    (case l13 => k_is)
    (case c_13 => k_is)
    (case k13 => k_is)
    (case z_len => k_is)
    (case z_all => k_is)
    (case z_range => k_is)
    (case z_enumerate => k_is)
    (case z_isinstance => k_is)
    (case z_tuple => k_is)
    (case z_list => k_is)
    (case z_bool => k_is)
    (case z_str => k_is)
    (case z_int => k_is)
    (case z_max => k_is)
    (case z_zip => k_is)
#print axioms PySem.Challenge.cw_breakwords_k40_what_is_missed_and_wrong_holds
namespace K40
end K40

